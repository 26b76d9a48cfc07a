/- Parts of a proof. -/
import Derived.Test.YteopgmieindojaaGreatGX14
import Derived.Test.YteopgmieindojaaGreatGX16
import Derived.Test.YteopgmieindojaaGreatGX18
import Derived.Test.YteopgmieindojaaGreatGX13
set_option maxRecDepth 1000000
set_option maxHeartbeats 8000000
namespace Go.Proofs.YteopgmieindojaaGreat
open Go.RowKit
abbrev nodeZ:List Value:= [.int .i64 0,.int .i64 0,.int .i64 0,.string ⟨#[]⟩,.int .i64 0,.int .i64 0,.int .i64 0,.int .i64 0,.int .i64 0,.slice none 0 0,.slice none 0 0,.bool false,.int .i64 0,.int .i64 0]
def Jg6(x:Ce)(n:Int)(w:World)(e:Ending)(w':World):Prop:=∃(cs:List Value),e= .returned (.tuple #[.agg cs.toArray,Fk n])∧(n≠0∧cs=nodeZ∨n=0∧∃nv:Bp,cs=nv.cells∧nv.x=x∧nv.ok w.heap.size w')∧Below w.heap.size w w'
theorem Tz(w:World)(x y z:Obj):(((w.alloc x).alloc y).alloc z).heap[w.heap.size]?=some x∧(((w.alloc x).alloc y).alloc z).heap[w.heap.size+1]?=some y∧(((w.alloc x).alloc y).alloc z).heap[w.heap.size+1+1]?=some z∧Below w.heap.size w (((w.alloc x).alloc y).alloc z):=by
 have s1:(w.alloc x).heap.size=w.heap.size+1:=by simp
 have s2:((w.alloc x).alloc y).heap.size=w.heap.size+1+1:=by simp
 refine⟨?_,?_,?_,(((Ag _ w).alloc (Af _) _).alloc (by simp) _).alloc (by simp;omega) _⟩
 ·rw[Below.heap_alloc _ _ _ (by omega),Below.heap_alloc _ _ _ (by omega)];exact Ah w _
 ·rw[Below.heap_alloc _ _ _ (by omega)];have:=Ah (w.alloc x) y
  rwa [s1]at this
 ·have:=Ah ((w.alloc x).alloc y) z
  rwa [s2]at this
theorem Tryz.sizeNode:(Tryz.prog.info? 86).map (·.size)=some 14:=by kernel_rfl
theorem Jec(a0 a1 a2 a4 a5 a6 a7 a8 a12 a13:Int)(a3:ByteArray)(p9 p10:Option Addr)(n9 c9 n10 c10:Nat)(a11:Bool):(#[Value.int .i64 a0,.int .i64 a1,.int .i64 a2,.string a3,.int .i64 a4,.int .i64 a5,.int .i64 a6,.int .i64 a7,.int .i64 a8,.slice p9 n9 c9,.slice p10 n10 c10,.bool a11,.int .i64 a12,.int .i64 a13]:Array Value).all (·.oneCell')=true:=by
 simp[Value.oneCell']
theorem Jbh{w:World}{g N:Nat}{cs0:Array Value}{T:TypeId}(cs:Array Value)(hN:N≤g)(h:w.heap[g]?=some (.cells cs0 T (0,0))):(w.setRow g cs).heap[g]?=some (.cells cs T (0,0))∧FrT N [T] w (w.setRow g cs):=by
 refine⟨setRow_heap w g cs0 cs T (0,0) h,rfl,rfl,rfl,by simp,fun k o hk ht=>?_⟩;by_cases e:k=g
 ·subst e;rw[h]at hk;cases hk;rcases ht with ht|ht
  ·omega
  ·exact absurd rfl (ht T (by simp))
 ·exact(setRow_other w g k cs e).trans hk
theorem Uk{w:World}{g N:Nat}{v0 v1 v2 v3 v4 v5 v6 v7 v8 v9 v10 v11 v12 v13:Value}{T:TypeId}(u0 u1 u2 u3 u4 u5 u6 u7 u8 u9 u10 u11 u12 u13:Value)(hN:N≤g)(h:w.heap[g]?=some (.cells #[v0,v1,v2,v3,v4,v5,v6,v7,v8,v9,v10,v11,v12,v13] T (0,0))):
 ((((((((((((((w.setCell ⟨g,0,none⟩ u0).setCell ⟨g,1,none⟩ u1).setCell ⟨g,2,none⟩ u2).setCell ⟨g,3,none⟩ u3).setCell ⟨g,4,none⟩ u4).setCell ⟨g,5,none⟩ u5).setCell ⟨g,6,none⟩ u6).setCell ⟨g,7,none⟩ u7).setCell ⟨g,8,none⟩ u8).setCell ⟨g,9,none⟩ u9).setCell ⟨g,10,none⟩ u10).setCell ⟨g,11,none⟩ u11).setCell ⟨g,12,none⟩ u12).setCell ⟨g,13,none⟩ u13).heap[g]?=some (.cells #[u0,u1,u2,u3,u4,u5,u6,u7,u8,u9,u10,u11,u12,u13] T (0,0))∧FrT N [T] w ((((((((((((((w.setCell ⟨g,0,none⟩ u0).setCell ⟨g,1,none⟩ u1).setCell ⟨g,2,none⟩ u2).setCell ⟨g,3,none⟩ u3).setCell ⟨g,4,none⟩ u4).setCell ⟨g,5,none⟩ u5).setCell ⟨g,6,none⟩ u6).setCell ⟨g,7,none⟩ u7).setCell ⟨g,8,none⟩ u8).setCell ⟨g,9,none⟩ u9).setCell ⟨g,10,none⟩ u10).setCell ⟨g,11,none⟩ u11).setCell ⟨g,12,none⟩ u12).setCell ⟨g,13,none⟩ u13):=by
 obtain⟨w0,e0⟩:∃w0,w0=w.setCell ⟨g,0,none⟩ u0:=⟨_,rfl⟩
 have h0:w0.heap[g]?=some (.cells #[u0,v1,v2,v3,v4,v5,v6,v7,v8,v9,v10,v11,v12,v13] T (0,0)):=by rw[e0];exact An w g 0 _ _ u0 h
 have f0:FrT N [T] w w0:=by rw[e0];exact FrT.set h (by simp) hN _
 obtain⟨w1,e1⟩:∃w1,w1=w0.setCell ⟨g,1,none⟩ u1:=⟨_,rfl⟩
 have h1:w1.heap[g]?=some (.cells #[u0,u1,v2,v3,v4,v5,v6,v7,v8,v9,v10,v11,v12,v13] T (0,0)):=by rw[e1];exact An w0 g 1 _ _ u1 h0
 have f1:FrT N [T] w w1:=by rw[e1];exact f0.trans (FrT.set h0 (by simp) hN _)
 obtain⟨w2,e2⟩:∃w2,w2=w1.setCell ⟨g,2,none⟩ u2:=⟨_,rfl⟩
 have h2:w2.heap[g]?=some (.cells #[u0,u1,u2,v3,v4,v5,v6,v7,v8,v9,v10,v11,v12,v13] T (0,0)):=by rw[e2];exact An w1 g 2 _ _ u2 h1
 have f2:FrT N [T] w w2:=by rw[e2];exact f1.trans (FrT.set h1 (by simp) hN _)
 obtain⟨w3,e3⟩:∃w3,w3=w2.setCell ⟨g,3,none⟩ u3:=⟨_,rfl⟩
 have h3:w3.heap[g]?=some (.cells #[u0,u1,u2,u3,v4,v5,v6,v7,v8,v9,v10,v11,v12,v13] T (0,0)):=by rw[e3];exact An w2 g 3 _ _ u3 h2
 have f3:FrT N [T] w w3:=by rw[e3];exact f2.trans (FrT.set h2 (by simp) hN _)
 obtain⟨w4,e4⟩:∃w4,w4=w3.setCell ⟨g,4,none⟩ u4:=⟨_,rfl⟩
 have h4:w4.heap[g]?=some (.cells #[u0,u1,u2,u3,u4,v5,v6,v7,v8,v9,v10,v11,v12,v13] T (0,0)):=by rw[e4];exact An w3 g 4 _ _ u4 h3
 have f4:FrT N [T] w w4:=by rw[e4];exact f3.trans (FrT.set h3 (by simp) hN _)
 obtain⟨w5,e5⟩:∃w5,w5=w4.setCell ⟨g,5,none⟩ u5:=⟨_,rfl⟩
 have h5:w5.heap[g]?=some (.cells #[u0,u1,u2,u3,u4,u5,v6,v7,v8,v9,v10,v11,v12,v13] T (0,0)):=by rw[e5];exact An w4 g 5 _ _ u5 h4
 have f5:FrT N [T] w w5:=by rw[e5];exact f4.trans (FrT.set h4 (by simp) hN _)
 obtain⟨w6,e6⟩:∃w6,w6=w5.setCell ⟨g,6,none⟩ u6:=⟨_,rfl⟩
 have h6:w6.heap[g]?=some (.cells #[u0,u1,u2,u3,u4,u5,u6,v7,v8,v9,v10,v11,v12,v13] T (0,0)):=by rw[e6];exact An w5 g 6 _ _ u6 h5
 have f6:FrT N [T] w w6:=by rw[e6];exact f5.trans (FrT.set h5 (by simp) hN _)
 obtain⟨w7,e7⟩:∃w7,w7=w6.setCell ⟨g,7,none⟩ u7:=⟨_,rfl⟩
 have h7:w7.heap[g]?=some (.cells #[u0,u1,u2,u3,u4,u5,u6,u7,v8,v9,v10,v11,v12,v13] T (0,0)):=by rw[e7];exact An w6 g 7 _ _ u7 h6
 have f7:FrT N [T] w w7:=by rw[e7];exact f6.trans (FrT.set h6 (by simp) hN _)
 obtain⟨w8,e8⟩:∃w8,w8=w7.setCell ⟨g,8,none⟩ u8:=⟨_,rfl⟩
 have h8:w8.heap[g]?=some (.cells #[u0,u1,u2,u3,u4,u5,u6,u7,u8,v9,v10,v11,v12,v13] T (0,0)):=by rw[e8];exact An w7 g 8 _ _ u8 h7
 have f8:FrT N [T] w w8:=by rw[e8];exact f7.trans (FrT.set h7 (by simp) hN _)
 obtain⟨w9,e9⟩:∃w9,w9=w8.setCell ⟨g,9,none⟩ u9:=⟨_,rfl⟩
 have h9:w9.heap[g]?=some (.cells #[u0,u1,u2,u3,u4,u5,u6,u7,u8,u9,v10,v11,v12,v13] T (0,0)):=by rw[e9];exact An w8 g 9 _ _ u9 h8
 have f9:FrT N [T] w w9:=by rw[e9];exact f8.trans (FrT.set h8 (by simp) hN _)
 obtain⟨w10,e10⟩:∃w10,w10=w9.setCell ⟨g,10,none⟩ u10:=⟨_,rfl⟩
 have h10:w10.heap[g]?=some (.cells #[u0,u1,u2,u3,u4,u5,u6,u7,u8,u9,u10,v11,v12,v13] T (0,0)):=by rw[e10];exact An w9 g 10 _ _ u10 h9
 have f10:FrT N [T] w w10:=by rw[e10];exact f9.trans (FrT.set h9 (by simp) hN _)
 obtain⟨w11,e11⟩:∃w11,w11=w10.setCell ⟨g,11,none⟩ u11:=⟨_,rfl⟩
 have h11:w11.heap[g]?=some (.cells #[u0,u1,u2,u3,u4,u5,u6,u7,u8,u9,u10,u11,v12,v13] T (0,0)):=by rw[e11];exact An w10 g 11 _ _ u11 h10
 have f11:FrT N [T] w w11:=by rw[e11];exact f10.trans (FrT.set h10 (by simp) hN _)
 obtain⟨w12,e12⟩:∃w12,w12=w11.setCell ⟨g,12,none⟩ u12:=⟨_,rfl⟩
 have h12:w12.heap[g]?=some (.cells #[u0,u1,u2,u3,u4,u5,u6,u7,u8,u9,u10,u11,u12,v13] T (0,0)):=by rw[e12];exact An w11 g 12 _ _ u12 h11
 have f12:FrT N [T] w w12:=by rw[e12];exact f11.trans (FrT.set h11 (by simp) hN _)
 obtain⟨w13,e13⟩:∃w13,w13=w12.setCell ⟨g,13,none⟩ u13:=⟨_,rfl⟩
 have h13:w13.heap[g]?=some (.cells #[u0,u1,u2,u3,u4,u5,u6,u7,u8,u9,u10,u11,u12,u13] T (0,0)):=by rw[e13];exact An w12 g 13 _ _ u13 h12
 have f13:FrT N [T] w w13:=by rw[e13];exact f12.trans (FrT.set h12 (by simp) hN _)
 rw[←e0,←e1,←e2,←e3,←e4,←e5,←e6,←e7,←e8,←e9,←e10,←e11,←e12,←e13];exact⟨h13,f13⟩
theorem Qa{fn:Func}{p u:Tmp}(h:fn.results= #[.cell p 86,.tmp u])(tmps:Array Value)(w:World)(g:Nat)(v0 v1 v2 v3 v4 v5 v6 v7 v8 v9 v10 v11 v12 v13 b:Value)(hp:tmps.getD p undef= .pointer (some ⟨g,0,none⟩))(hu:tmps.getD u undef=b)
 (hg:w.heap[g]?=some (.cells #[v0,v1,v2,v3,v4,v5,v6,v7,v8,v9,v10,v11,v12,v13] 86 (0,0))):(results fn tmps).run Tryz.prog w= .ok (.tuple #[.agg #[v0,v1,v2,v3,v4,v5,v6,v7,v8,v9,v10,v11,v12,v13],b]) w:=by
 have hc:∀j v,(#[v0,v1,v2,v3,v4,v5,v6,v7,v8,v9,v10,v11,v12,v13]:Array Value)[j]?=some v→w.cell? ⟨g,j,none⟩=some v:=fun j v hv=>(Am w g j _ _ (0,0) hg).trans hv;have r0:=hc 0 _ rfl;have r1:=hc 1 _ rfl;have r2:=hc 2 _ rfl;have r3:=hc 3 _ rfl;have r4:=hc 4 _ rfl;have r5:=hc 5 _ rfl;have r6:=hc 6 _ rfl;have r7:=hc 7 _ rfl;have r8:=hc 8 _ rfl;have r9:=hc 9 _ rfl;have r10:=hc 10 _ rfl;have r11:=hc 11 _ rfl;have r12:=hc 12 _ rfl;have r13:=hc 13 _ rfl;clear hc;rw[results_cell_tmp h,hp,hu];go_simp
end Go.Proofs.YteopgmieindojaaGreat
