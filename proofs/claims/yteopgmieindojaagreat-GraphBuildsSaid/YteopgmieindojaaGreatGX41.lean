/- Parts of a proof. -/
import Derived.Test.YteopgmieindojaaGreatGX30
import Derived.Test.YteopgmieindojaaGreatGX26
import Derived.Deep.RegionWith
import Derived.Deep.DeepCutAuto
import Derived.StillTailTactics
import Derived.Test.YteopgmieindojaaGreatGX31
import Derived.Deep.RegionHeld3
import Derived.Deep.AppendLies
import Derived.Test.YteopgmieindojaaGreatGX39
import Derived.Test.YteopgmieindojaaGreatGX40
set_option maxRecDepth 1000000
set_option maxHeartbeats 8000000
namespace Go.Proofs.YteopgmieindojaaGreat
open Go.RowKit
def Hv(b:Nat):Array Value:=#[.pointer (some ⟨b,0,none⟩),.int .i64 4,.pointer (some ⟨b,1,none⟩),.int .i64 4,.pointer (some ⟨b,2,none⟩),.int .i64 8,.pointer (some ⟨b,3,none⟩),.int .i64 8,.pointer (some ⟨b,4,none⟩),.int .i64 8,.pointer (some ⟨b,5,none⟩),.int .i64 8,.pointer (some ⟨b,6,none⟩),.int .i64 4,.pointer (some ⟨b,7,none⟩),.int .i64 4,.pointer (some ⟨b,8,none⟩),.int .i64 8,.pointer (some ⟨b,9,none⟩),.int .i64 8]
theorem Je9(b:Nat)(w:World):Calls Tryz.prog 170 #[.pointer (some ⟨b,0,none⟩)] w fun e w'=>e= .returned (.slice (some ⟨w.heap.size,0,none⟩) 10 10)∧w'=(w.alloc (.cells (Hv b) 271)).drew:=by
 go_enter Tryz.func170,Tryz.ntmps170;go_wp2_with fail
 go_still_tail 40,(by kernel_rfl)
 change wpList _ _ _ _ _ w.drew;go_wp2_with fail
 go_ret;refine⟨?_,?_⟩
 ·rfl
 ·rfl
def toff:List Nat:= [0,4,8,16,24,32,40,44,48,56,64]
theorem Ji9(b k:Nat)(hk:k < 10):∃o wd:Nat,toff[k]?=some o∧toff[k+1]?=some (o+wd)∧(wd=4∨wd=8)∧o+wd≤64∧(Hv b)[2*k]?=some (.pointer (some ⟨b,k,none⟩))∧(Hv b)[2*k+1]?=some (.int .i64 (wd:Int))∧
 (∀t:Ten,∃x,t.l[k]?=some x∧t.nums[2*k]?=some x∧t.nums[2*k+1]?=some (wd:Int))∧(∀l a,(tenAt l a).l[k]?=some (Qm l (a+o) wd)):=by
 match k,hk with
 |0,_=>exact⟨0,4,rfl,rfl,.inl rfl,by omega,rfl,rfl,fun t=>⟨t.a,rfl,rfl,rfl⟩,fun _ _=>rfl⟩
 |1,_=>exact⟨4,4,rfl,rfl,.inl rfl,by omega,rfl,rfl,fun t=>⟨t.b,rfl,rfl,rfl⟩,fun _ _=>rfl⟩
 |2,_=>exact⟨8,8,rfl,rfl,.inr rfl,by omega,rfl,rfl,fun t=>⟨t.c,rfl,rfl,rfl⟩,fun _ _=>rfl⟩
 |3,_=>exact⟨16,8,rfl,rfl,.inr rfl,by omega,rfl,rfl,fun t=>⟨t.d,rfl,rfl,rfl⟩,fun _ _=>rfl⟩
 |4,_=>exact⟨24,8,rfl,rfl,.inr rfl,by omega,rfl,rfl,fun t=>⟨t.e,rfl,rfl,rfl⟩,fun _ _=>rfl⟩
 |5,_=>exact⟨32,8,rfl,rfl,.inr rfl,by omega,rfl,rfl,fun t=>⟨t.f,rfl,rfl,rfl⟩,fun _ _=>rfl⟩
 |6,_=>exact⟨40,4,rfl,rfl,.inl rfl,by omega,rfl,rfl,fun t=>⟨t.g,rfl,rfl,rfl⟩,fun _ _=>rfl⟩
 |7,_=>exact⟨44,4,rfl,rfl,.inl rfl,by omega,rfl,rfl,fun t=>⟨t.h,rfl,rfl,rfl⟩,fun _ _=>rfl⟩
 |8,_=>exact⟨48,8,rfl,rfl,.inr rfl,by omega,rfl,rfl,fun t=>⟨t.i,rfl,rfl,rfl⟩,fun _ _=>rfl⟩
 |9,_=>exact⟨56,8,rfl,rfl,.inr rfl,by omega,rfl,rfl,fun t=>⟨t.j,rfl,rfl,rfl⟩,fun _ _=>rfl⟩
theorem Ln{w:World}{base:Nat}{e e2:TypeId}{s n g:Nat}{v:Value}{xs:List Value}{cs:Array Value}(h:w.ownsRow base e s v n xs)(hg:w.heap[g]?=some (.cells cs e2 (0,0)))(he:e≠e2):some g≠v.ownBlock:=by
 rcases h.2 with⟨rfl,_⟩|⟨g',cap,cur,rfl,_,hg',_⟩
 ·simp[Value.ownBlock]
 ·simp only[Value.ownBlock,ne_eq,Option.some.injEq];intro e;subst e;rw[hg]at hg';simp only[Option.some.injEq,Obj.cells.injEq]at hg';exact he hg'.2.1.symm
theorem Jn{w:World}{g:Nat}{o:Obj}(h:w.heap[g]?=some o):g < w.heap.size:=(Ac.1 h).1
theorem Kb{w w':World}{B g:Nat}{o:Obj}(hb:Below B w w')(hg:w.heap[g]?=some o)(hB:g < B):w'.heap[g]?=some o:=by
 rw[hb.block g hB];exact hg
def Kt(t:Ten):Array Value:=#[.int .i64 t.a,.int .i64 t.b,.int .i64 t.c,.int .i64 t.d,.int .i64 t.e,.int .i64 t.f,.int .i64 t.g,.int .i64 t.h,.int .i64 t.i,.int .i64 t.j]
theorem Jl5(t:Ten):Kt t=(t.l.map (Value.int .i64)).toArray:=rfl
theorem Jj6{t:Ten}{k:Nat}{x:Int}(h:t.l[k]?=some x):(Kt t)[k]?=some (.int .i64 x):=by
 rw[Jl5];simp[h]
theorem Jdf(t:Ten)(w:World):Calls Tryz.prog 126 #[t.v] w fun e w'=>(t.may→Fe (sectB t) w e w')∧(¬t.may→Md 0 [] w e w'):=by
 have HF:=Aa fun W=>Je9 w.heap.size W;have HC:=Aa (Ji9 w.heap.size);have hsz:(Hv w.heap.size).size=20:=rfl;have HZ:=Aa hsz;have hal:(t.l).length=10:=rfl;have HAL:=Aa hal;have hnl:(t.nums).length=20:=rfl;have HNL:=Aa hnl;have hse:sectB t=Fq t.nums:=rfl;have HSE:=Aa hse;have hmay:t.may ↔∀x∈t.l,Bu x=true:=Iff.rfl;have HMAY:=Aa hmay;obtain⟨i0,hi,hz0,hz1,hz2⟩:=info_parts Tryz.infoU8;have HI:=Aa hi;have H0:=Aa hz0;have H1:=Aa hz1;have H2:=Aa hz2;have hf1:(w.alloc (.cells (Kt t) 183)).heap[w.heap.size]?=some (.cells (Kt t) 183 (0,0)):=Ah w _;have hf2:((w.alloc (.cells (Kt t) 183)).alloc (.cells (Hv w.heap.size) 271)).heap[w.heap.size+1]?=some (.cells (Hv w.heap.size) 271 (0,0)):=by
  have:=Ah (w.alloc (.cells (Kt t) 183)) (.cells (Hv w.heap.size) 271);simpa using this
 have hf3:((w.alloc (.cells (Kt t) 183)).alloc (.cells (Hv w.heap.size) 271)).heap[w.heap.size]?=some (.cells (Kt t) 183 (0,0)):=by
  rw[Below.heap_alloc _ _ _ (by simp)];exact hf1
 have hb3:Below w.heap.size w (((w.alloc (.cells (Kt t) 183)).alloc (.cells (Hv w.heap.size) 271)).drew):=(((Ag _ w).alloc (Af _) _).alloc (by simp) _).drew;clear hi hz0 hz1 hz2 hsz hal hnl hse hmay hf1;go_enter Tryz.func126,Tryz.ntmps126;go_wp2_with fail
 refine(HF.out _).mono ?_;rintro e w2 ⟨rfl,rfl⟩;go_wp2_with fail
 obtain⟨w3,hw3⟩:∃w3:World,w3=(((w.alloc (.cells #[.int .i64 t.a,.int .i64 t.b,.int .i64 t.c,.int .i64 t.d,.int .i64 t.e,.int .i64 t.f,.int .i64 t.g,.int .i64 t.h,.int .i64 t.i,.int .i64 t.j] 183)).alloc (.cells (Hv w.heap.size) 271)).drew):=⟨_,rfl⟩
 have g1:w3.heap[w.heap.size]?=some (.cells (Kt t) 183 (0,0)):=by rw[hw3];exact hf3
 have g2:w3.heap[w.heap.size+1]?=some (.cells (Hv w.heap.size) 271 (0,0)):=by rw[hw3];exact hf2
 have g3:Below w.heap.size w w3:=by rw[hw3];exact hb3
 rw[←hw3];clear hw3 hf2 hf3 hb3 HF;go_loopw [3,5,8] (fun out _ ii wr=>∃k q:Nat,k≤10∧q≤8*k∧ii= .int .i64 (k:Int)∧(∀(j:Nat)(y:Int),j < k→t.l[j]?=some y→Bu y=true)∧wr.ownsRow w.heap.size 5 1 out q ((Fq (t.nums.take (2*k))).map u8v)∧wr.heap[w.heap.size]?=some (.cells (Kt t) 183 (0,0))∧wr.heap[w.heap.size+1]?=some (.cells (Hv w.heap.size) 271 (0,0))∧Below w.heap.size w wr) (fun _ _ ii _=>10 - (intOf ii).toNat)
 case atStart=>exact⟨0,0,Ak _,Af _,rfl,fun j y hj=>absurd hj (by omega),by simpa[Fq]using Aq w3 w.heap.size 5 1,g1,g2,g3⟩
 case round=>
  obtain⟨k,q,hk,hq,rfl,hfit,hown,hh1,hh2,hb⟩:=hrel;clear g1 g2 g3;by_cases hlt:k < 10
  ·obtain⟨o,wd,_,_,hwd,_,hy1,hy2,hxs,_⟩:=HC.out k hlt;obtain⟨x,hx,hx1,hx2⟩:=hxs t;have d1:wr.cell? ⟨w.heap.size+1,k*2,none⟩=some (.pointer (some ⟨w.heap.size,k,none⟩)):=by
    rw[Am wr (w.heap.size+1) (k*2) _ _ (0,0) hh2,Nat.mul_comm];exact hy1
   have d2:wr.cell? ⟨w.heap.size+1,k*2+1,none⟩=some (.int .i64 (wd:Int)):=by
    rw[Am wr (w.heap.size+1) (k*2+1) _ _ (0,0) hh2,Nat.mul_comm];exact hy2
   have d3:wr.cell? ⟨w.heap.size,k,none⟩=some (.int .i64 x):=by
    rw[Am wr w.heap.size k _ _ (0,0) hh1];exact Jj6 hx
   have hI:(k:Int) < 10:=by omega
   have hI0:(0:Int)≤(k:Int):=by omega
   have hxl:=Ad hx;have hgs:w.heap.size < wr.heap.size:=Jn hh1;have hba:Below wr.heap.size wr (wr.alloc (.cells #[.pointer (some ⟨w.heap.size,k,none⟩),.int .i64 (wd:Int)] 271)):=(Ag _ wr).alloc (Af _) _;have d4:(wr.alloc (.cells #[.pointer (some ⟨w.heap.size,k,none⟩),.int .i64 (wd:Int)] 271)).cell? ⟨w.heap.size,k,none⟩=some (.int .i64 x):=by rw[hba.cell (by exact hgs)];exact d3
   by_cases x0:0≤x
   ·by_cases x1:x≤2147483647
    ·obtain⟨v,rfl⟩:=Au x0;have hwid:wid (wd:Int)=true:=(Py _).2 (by omega);have hun:u64n (v:Int)=v:=Fl v (by omega);have ht2:=Tw (k:=k) hx1 hx2;rw[hun,Int.toNat_natCast]at ht2;have HT:=Aa ht2;have HP:=Aa fun W=>(Sa v wd W (by omega) hwid).mono fun _ _ x=>x.toH;rw[Dp]at HP;have hJ:¬(v:Int) < 0:=by omega
     have hJ1:¬(2147483647:Int) < (v:Int):=by omega
     have hcv:IntKind.u64.wrap (v:Int)=(v:Int):=by rw[Jm,hun]
     have hfit':∀(j:Nat)(y:Int),j < k+1→t.l[j]?=some y→Bu y=true:=fun j y hj hy=>by
      by_cases hjk:j < k
      ·exact hfit j y hjk hy
      ·obtain rfl:j=k:=by omega
       rw[hx]at hy;cases hy;exact(Bv _).2 ⟨x0,x1⟩
     have HFT:=Aa hfit';have hw1:1≤wd:=by omega
     have hw8:wd≤8:=by omega
     clear hxl hx hx1 hx2 hy1 hy2 hxs hfit hwd x0 x1 hfit' hun ht2 hwid;go_wp2_with fail
     have e0:(wr.alloc (.cells #[.pointer (some ⟨w.heap.size,k,none⟩),.int .i64 (wd:Int)] 271)).cell? ⟨wr.heap.size,0,none⟩=some (.pointer (some ⟨w.heap.size,k,none⟩)):=by simp
     have e1:(wr.alloc (.cells #[.pointer (some ⟨w.heap.size,k,none⟩),.int .i64 (wd:Int)] 271)).cell? ⟨wr.heap.size,1,none⟩=some (.int .i64 (wd:Int)):=by simp
     have hh1A:=Kb hba hh1 hgs;have hh2A:=Kb hba hh2 (Jn hh2);have hown1:(wr.alloc (.cells #[.pointer (some ⟨w.heap.size,k,none⟩),.int .i64 (wd:Int)] 271)).ownsRow w.heap.size 5 1 u3 q ((Fq (t.nums.take (2*k))).map u8v):=hown.alloc _;have hb1:Below w.heap.size w (wr.alloc (.cells #[.pointer (some ⟨w.heap.size,k,none⟩),.int .i64 (wd:Int)] 271)):=hb.alloc hb.size _;have hn3:(wr.alloc (.cells #[.pointer (some ⟨w.heap.size,k,none⟩),.int .i64 (wd:Int)] 271)).heap[wr.heap.size]?=some (.cells #[.pointer (some ⟨w.heap.size,k,none⟩),.int .i64 (wd:Int)] 271 (0,0)):=Ah wr _;generalize hW1:(wr.alloc (.cells #[.pointer (some ⟨w.heap.size,k,none⟩),.int .i64 (wd:Int)] 271))=w1 at*;clear d1 d2 d3 hown hb hh1 hh2 hW1;generalize wr.heap.size=gn at*;have q2:q+wd≤maxLen:=by unfold maxLen;omega
     have q3:(q+wd)*1≤140737488355328:=by omega
     go_region_held3 (fun w'=>w'.cell? ⟨gn,0,none⟩=some (.pointer (some ⟨w.heap.size,k,none⟩))∧w'.cell? ⟨gn,1,none⟩=some (.int .i64 (wd:Int))∧w'.cell? ⟨w.heap.size,k,none⟩=some (.int .i64 (v:Int))) (first|go_keep|exact⟨e0,e1,d4⟩|exact⟨t0,t1,t2⟩|exact⟨f0,f1,f2⟩|fail)
      ((first
        |(go_at_call 171
          refine(HP.out _).mono ?_;rintro e w2 ⟨p2,c2,rfl,hl2,hnc2,hcm2,hH2,hbb2⟩;obtain⟨b2,o2,rfl,_⟩:=hH2.plain (by omega);have hb2:Below w.heap.size w w2:=hb1.drew.trans (hbb2.mono (by exact hb1.size));have t0:=Ax hbb2 e0;have t1:=Ax hbb2 e1;have t2:=Ax hbb2 d4;have hown2:=Ed hown1.drew hbb2;have hh1B:=Kb hbb2 hh1A (Jn hh1A);have hh2B:=Kb hbb2 hh2A (Jn hh2A);have hn3B:=Kb hbb2 hn3 (Jn hn3);have HH2:=Aa hH2;have HL2:=Aa hl2
          clear hH2 hl2 hbb2)
        |(refine step_append_lies _ (by rfl) _ _ _ (by rfl) w.heap.size 5 i0 (.int .u8 0) 1 1 Tryz.underlying31 HI.out H0.out H1.out H2.out rfl (by decide) _ q _ (by rfl) hown2 ⟨b2,o2,none⟩ wd c2 ((leB wd v).map u8v) (by rfl) (by rw[List.length_map,HL2.out,Nat.mul_one]) HH2.out.cells (Kv _) hw1 q2 q3 hb2.size _ rfl ?_
          intro g3 cap3 w3 hown3 hgrow3 _ _;have f0:=hgrow3.cell t0 (Ln hown2 hn3B (by decide));have f1:=hgrow3.cell t1 (Ln hown2 hn3B (by decide))
          have f2:=hgrow3.cell t2 (Ln hown2 hh1B (by decide)))
        |fail))
     have hb3:Below w.heap.size w w3:=hb2.grown hgrow3 hb2.size (fun g hg=>(hown2.lt g hg).1);have hh1C:w3.heap[w.heap.size]?=some (.cells (Kt t) 183 (0,0)):=by
      rw[hgrow3.block _ (Jn hh1B) (Ln hown2 hh1B (by decide))];exact hh1B
     have hh2C:w3.heap[w.heap.size+1]?=some (.cells (Hv w.heap.size) 271 (0,0)):=by
      rw[hgrow3.block _ (Jn hh2B) (Ln hown2 hh2B (by decide))];exact hh2B
     rw[←List.map_append,←HT.out]at hown3;clear hgrow3 hown2 hown1 hb1 hb2 hh1B hh2B hn3B;go_wp2_with fail
     go_roundw
     case rel=>exact⟨k+1,q+wd,hlt,by omega,by go_num,HFT.out,hown3,hh1C,hh2C,hb3⟩
     case measure=>simp[intOf];omega
    ·have hno:¬t.may:=fun hc=>by have:=(Bv x).1 (HMAY.out.1 hc x hxl);omega
     have HNO:=Aa hno;have hJ:¬x < 0:=by omega
     have hJ1:2147483647 < x:=by omega
     have hbb:Below w.heap.size w (wr.alloc (.cells #[.pointer (some ⟨w.heap.size,k,none⟩),.int .i64 (wd:Int)] 271)):=hb.alloc hb.size _;clear hno hxl hx hx1 hx2 hy1 hy2 hxs hfit hwd x1 x0;go_wp2_with fail
     go_ret;exact⟨fun h=>absurd h HNO.out,fun _=>⟨none,0,rfl,rfl,Af _,Ak _,Has.none_ _ _,hbb⟩⟩
   ·have hno:¬t.may:=fun hc=>by have:=(Bv x).1 (HMAY.out.1 hc x hxl);omega
    have HNO:=Aa hno;have hJ:x < 0:=by omega
    have hbb:Below w.heap.size w (wr.alloc (.cells #[.pointer (some ⟨w.heap.size,k,none⟩),.int .i64 (wd:Int)] 271)):=hb.alloc hb.size _;clear hno hxl hx hx1 hx2 hy1 hy2 hxs hfit hwd x0;go_wp2_with fail
    go_ret;exact⟨fun h=>absurd h HNO.out,fun _=>⟨none,0,rfl,rfl,Af _,Ak _,Has.none_ _ _,hbb⟩⟩
  ·obtain rfl:k=10:=by omega
   have ht:(t.nums).take (2*10)=t.nums:=List.take_of_length_le (by rw[HNL.out];omega);rw[ht,←HSE.out]at hown;have hn1:(sectB t).length=q:=by have:=hown.1;simpa using this
   have hyes:t.may:=HMAY.out.2 fun y hy=>by
    obtain⟨j,hj⟩:=Av hy;exact hfit j y (by have:=(Ab.1 hj).1;have:=HAL.out;omega) hj
   have HY:=Aa hyes;clear ht hyes hfit;go_wp2_with fail
   go_ret;exact⟨fun _=>⟨_,rfl,by rw[hn1];exact hown,hb⟩,fun h=>absurd HY.out h⟩
theorem Jgt:Jr8:=fun t w=>⟨fun h=>(Jdf t w).mono fun _ _ x=>x.1 h,fun h=>(Jdf t w).mono fun _ _ x=>x.2 h⟩
def Lr(pl:List Nat)(i off:Nat)(p:Bk):Ten:=⟨((pl.getD i 0:Nat):Int),p.h.b,p.h.c,p.h.d,64+(off:Int),p.h.f,p.h.g,p.h.h,p.h.i,p.h.j⟩
def Ur(pl:List Nat)(l:List Bk)(i:Nat):List UInt8:=match l[i]? with
 |some p=>sectB (Lr pl i (Cn (l.take i)).length p)
 |none=> []
def Fj(pl:List Nat)(l:List Bk)(k:Nat):List UInt8:=sectB Ri++(List.range k).flatMap (Ur pl l)
theorem Jbx{pl:List Nat}{l:List Bk}{k:Nat}{p:Bk}(h:l[k]?=some p):Fj pl l (k+1)=Fj pl l k++sectB (Lr pl k (Cn (l.take k)).length p):=by
 unfold Fj;rw[List.range_succ,List.flatMap_append];simp[Ur,h]
def ownAll(pd:List Bk):List Bk:=pd++ [szP ⟨Dc,Gz,(Cj (Bh pd)).tb⟩]
def Rw(pd:List Bk):List UInt8:=Nt (64+(Cn (ownAll pd)).length) (1+(ownAll pd).length) (ownAll pd).length++Cn (ownAll pd)++Fj (placesOf (Bh pd)) (ownAll pd) (ownAll pd).length
structure Sj(pd:List Bk):Prop where
 len:pd.length≤130
 ok:∀p∈pd,Tq p
 nm:∀p∈pd,mayB (lst p.name)=true
theorem Ja2{pd:List Bk}(h:Sj pd):∀n∈Bh pd,mayB n=true:=fun n hn=>by
 unfold Bh at hn;rcases List.mem_append.1 hn with hn|hn
 ·obtain⟨p,hp,rfl⟩:=List.mem_map.1 hn;exact h.nm p hp
 ·simp only[List.mem_singleton]at hn;subst hn
  decide
theorem Zx{pd:List Bk}(h:Sj pd):(Cj (Bh pd)).tb.length≤330001:=Mv _ (by rw[Eu];have:=h.len;omega) (Ja2 h)
theorem Ja1{pd:List Bk}(h:Sj pd):∀p∈ownAll pd,Tq p:=fun p hp=>by
 unfold ownAll at hp;rcases List.mem_append.1 hp with hp|hp
 ·exact h.ok p hp
 ·simp only[List.mem_singleton]at hp;subst hp;have:=Zx h;exact⟨by show(Cj _).tb.length≤_;omega,rfl,rfl,rfl,rfl,Ph _ (by show(Cj _).tb.length≤_;omega),rfl,rfl,rfl,rfl⟩
theorem Pc(pd:List Bk):(ownAll pd).length=pd.length+1:=by unfold ownAll;simp
theorem Jcz{pd:List Bk}(h:Sj pd)(i:Nat):(Cn ((ownAll pd).take i)).length≤60000000:=by
 have h1:=Wv ((ownAll pd).take i) fun p hp=>Ja1 h p (List.mem_of_mem_take hp);have h2:((ownAll pd).take i).length≤pd.length+1:=by rw[←Pc];simp;omega
 have:=h.len;omega
theorem Jo6{pd:List Bk}(h:Sj pd)(i:Nat)(p:Bk)(hp:(ownAll pd)[i]?=some p):(Lr (placesOf (Bh pd)) i (Cn ((ownAll pd).take i)).length p).may:=by
 obtain⟨h0,h1,h2,h3,h4,h5,h6,h7,h8,h9⟩:=Ja1 h p (Ad hp);have hb:=Jcz h i;have hi:i < (placesOf (Bh pd)).length:=by
  rw[Qo,Eu];have:=(Ab.1 hp).1;rw[Pc]at this;omega
 have hpl:(placesOf (Bh pd))[i]≤330001:=by
  have e:(placesOf (Bh pd))[i]?=some ((placesOf (Bh pd))[i]):=Ae hi;unfold placesOf at e;rw[List.getElem?_map]at e;obtain⟨n,hn,he⟩:=Option.map_eq_some_iff.1 e;have h6:=Zx h;have h7:=Ti (Bh pd) n (.inr (Ad hn));have h8:placeOf (Bh pd) n=(placesOf (Bh pd))[i]:=he;omega
 intro x hx;unfold Lr Ten.l at hx;simp only[List.mem_cons,List.not_mem_nil,or_false]at hx;rcases hx with rfl|rfl|rfl|rfl|rfl|rfl|rfl|rfl|rfl|rfl
 ·refine Ph _ ?_;rw[List.getD_eq_getElem?_getD,Ae hi];simp only[Option.getD_some];omega
 ·exact h1
 ·exact h2
 ·exact h3
 ·exact(Bv _).2 ⟨by omega,by omega⟩
 ·exact h5
 ·exact h6
 ·exact h7
 ·exact h8
 ·exact h9
theorem Vf(w:World)(g:Nat)(v0 v1 v2 v3 v4 v5 v6 v7 v8 v9 v10 v11:Value)(T:TypeId)(h:w.heap[g]?=some (.cells #[v0,v1,v2,v3,v4,v5,v6,v7,v8,v9,v10,v11] T (0,0))):
 w.cell? ⟨g,0,none⟩=some v0∧w.cell? ⟨g,1,none⟩=some v1∧w.cell? ⟨g,2,none⟩=some v2∧w.cell? ⟨g,3,none⟩=some v3∧w.cell? ⟨g,4,none⟩=some v4∧w.cell? ⟨g,5,none⟩=some v5∧w.cell? ⟨g,6,none⟩=some v6∧w.cell? ⟨g,7,none⟩=some v7∧w.cell? ⟨g,8,none⟩=some v8∧w.cell? ⟨g,9,none⟩=some v9∧w.cell? ⟨g,10,none⟩=some v10∧w.cell? ⟨g,11,none⟩=some v11:=by
 refine⟨?_,?_,?_,?_,?_,?_,?_,?_,?_,?_,?_,?_⟩<;>exact(Am w g _ _ _ (0,0) h).trans rfl
theorem Below.toGrown{w w':World}(h:Below w.heap.size w w')(row:Option Nat):w.grownBy w' row:=⟨h.os,h.tape,h.output,h.size,fun k hk _=>h.block k hk⟩
theorem Jo0:Ri.may:=fun x hx=>by
 simp only[Ten.l,Ri,List.mem_cons,List.not_mem_nil,or_false,or_self]at hx;subst hx;rfl
theorem Jjl{w:World}{base n:Nat}{T:TypeId}{p0:Option Addr}{c0:Nat}{pv:List PV}{pd:List Bk}{K:Nat→Prop}(h:w.ownsRow base T 12 (.slice p0 n c0) n (pvs false pv))(hpa:Bf w K pv pd)(hn:pd.length=n){k:Nat}(hk:k < n):
 ∃(g:Nat)(y:Bk)(q:Option Addr)(c:Nat),p0=some ⟨g,0,none⟩∧pd[k]?=some y∧y.b.length≤c∧c≤maxLen∧(q=none→c=0)∧Has w q y.b∧
  w.cell? ⟨g,k*12,none⟩=some (.string y.name)∧w.cell? ⟨g,k*12+1,none⟩=some (.int .i64 y.h.a)∧w.cell? ⟨g,k*12+2,none⟩=some (.int .i64 y.h.b)∧w.cell? ⟨g,k*12+3,none⟩=some (.int .i64 y.h.c)∧w.cell? ⟨g,k*12+4,none⟩=some (.int .i64 y.h.d)∧
  w.cell? ⟨g,k*12+5,none⟩=some (.int .i64 y.h.e)∧w.cell? ⟨g,k*12+6,none⟩=some (.int .i64 y.h.f)∧w.cell? ⟨g,k*12+7,none⟩=some (.int .i64 y.h.g)∧w.cell? ⟨g,k*12+8,none⟩=some (.int .i64 y.h.h)∧w.cell? ⟨g,k*12+9,none⟩=some (.int .i64 y.h.i)∧
  w.cell? ⟨g,k*12+10,none⟩=some (.int .i64 y.h.j)∧w.cell? ⟨g,k*12+11,none⟩=some (.slice q y.b.length c):=by
 obtain⟨g,p,y,hp0,hy,hh,hn2,hs,hc⟩:=Zw h hpa hn hk;obtain⟨q,c,hv,h1,h2,h3,h4⟩:=hs.has;refine⟨g,y,q,c,hp0,hy,h1,h2,h3,h4,?_,?_,?_,?_,?_,?_,?_,?_,?_,?_,?_,?_⟩
 ·have:=hc 0 (by omega);rw[Nat.add_zero]at this;rw[this,←hn2];rfl
 ·rw[hc 1 (by omega),←hh];rfl
 ·rw[hc 2 (by omega),←hh];rfl
 ·rw[hc 3 (by omega),←hh];rfl
 ·rw[hc 4 (by omega),←hh];rfl
 ·rw[hc 5 (by omega),←hh];rfl
 ·rw[hc 6 (by omega),←hh];rfl
 ·rw[hc 7 (by omega),←hh];rfl
 ·rw[hc 8 (by omega),←hh];rfl
 ·rw[hc 9 (by omega),←hh];rfl
 ·rw[hc 10 (by omega),←hh];rfl
 ·rw[hc 11 (by omega),←hv];rfl
def szR(p:Bk):Bk:=if p.h.b=8 then p else szP p
def Qi(o:Az):List Bk:=o.secs.map Eg++relPs (Dv o) o.secs o.secs.length++groupPs (Dv o) o.groups o.hasSig o.sig++symPs (Dv o) o.syms
theorem Nf(o:Az):Ci o=Fw::Qi o:=by unfold Ci Qi;simp
theorem Jo4{o:Az}(hl:Ho o){s:Ca}(hs:s∈o.secs):szR (Eg s)=Eg s:=by
 unfold szR;split
 ·rfl
 ·rename_i h;have h2:=(hl.secs s hs).2.2.2.2.2.2.2.2.2.1 h;unfold szP szT Eg Mt;rw[h2]
theorem Jsp{p:Bk}(h:p.h.b≠8):szR p=szP p:=if_neg h
theorem Zq{l:List Bk}(h:∀p∈l,p.h.b≠8):l.map szR=l.map szP:=List.map_congr_left fun p hp=>Jsp (h p hp)
theorem rel_b(a:Int)(secs:List Ca)(k:Nat):∀p∈relPs a secs k,p.h.b≠8:=fun p hp=>by
 unfold relPs at hp;obtain⟨i,_,hp⟩:=List.mem_flatMap.1 hp;unfold Iz at hp;split at hp
 ·unfold Hx at hp;split at hp
  ·simp at hp
  ·simp only[List.mem_singleton]at hp;subst hp;show(4:Int)≠8
   decide
 ·simp at hp
theorem Jp3(a:Int)(gs:List Cs)(sg:Bool)(sig:List Int):∀p∈groupPs a gs sg sig,p.h.b≠8:=fun p hp=>by
 unfold groupPs at hp;rcases List.mem_append.1 hp with hp|hp
 ·obtain⟨g,_,rfl⟩:=List.mem_map.1 hp;show(17:Int)≠8
  decide
 ·cases sg with
  |false=>simp at hp
  |true=>
   simp only[cond_true,List.mem_singleton]at hp;subst hp;show(1879002115:Int)≠8
   decide
theorem sym_b(a:Int)(l:List Ct):∀p∈symPs a l,p.h.b≠8:=fun p hp=>by
 unfold symPs at hp;simp only[List.mem_cons,List.not_mem_nil,or_false]at hp;rcases hp with rfl|rfl
 ·show(2:Int)≠8
  decide
 ·show(3:Int)≠8
  decide
theorem Je2{o:Az}(hl:Ho o):ownPs o=(Qi o).map szR:=by
 unfold ownPs Qi;simp only[List.map_append];rw[Zq (rel_b _ _ _),Zq (Jp3 _ _ _ _),Zq (sym_b _ _)];have:(o.secs.map Eg).map szR=o.secs.map Eg:=by
  rw[List.map_map];exact List.map_congr_left fun s hs=>Jo4 hl hs
 rw[this];simp only[List.append_assoc]
theorem Jcx(p:Bk):(szR p).name=p.name:=by unfold szR;split<;>rfl
theorem Ja4(p:Bk):(szR p).b=p.b:=by unfold szR;split<;>rfl
theorem Jc8(p:Bk):(szR p).h=szT p.h (if p.h.b=8 then p.h.f else(p.b.length:Int)):=by
 unfold szR;split
 ·rfl
 ·rfl
theorem Jjq(l:List Bk):Bh (l.map szR)=Bh l:=by
 unfold Bh;rw[List.map_map];congr 1;exact List.map_congr_left fun p _=>by show lst (szR p).name=lst p.name;rw[Jcx]
theorem Jil(l:List Bk):Bh (Fw::l)= []::Bh l:=rfl
theorem Jes(ns:List Nm):Cj ([]::ns)=Cj ns:=rfl
theorem Jf2(ns:List Nm):placesOf ([]::ns)=0::placesOf ns:=by
 have h:∀m,placeOf ([]::ns) m=placeOf ns m:=fun m=>by unfold placeOf;rw[Jes]
 unfold placesOf;rw[List.map_cons,h,Wi,show List.map (placeOf ([]::ns)) ns=List.map (placeOf ns) ns from List.map_congr_left fun m _=>h m]
def Sim(r q:List Bk):Prop:=r.length=q.length∧∀(i:Nat)(p p':Bk),r[i]?=some p→q[i]?=some p'→p'.b=p.b∧p'.h=szT p.h (if p.h.b=8 then p.h.f else(p.b.length:Int))
theorem Sim.snoc{r q:List Bk}{p p':Bk}(h:Sim r q)(h1:p'.b=p.b)(h2:p'.h=szT p.h (if p.h.b=8 then p.h.f else(p.b.length:Int))):Sim (r++ [p]) (q++ [p']):=by
 refine⟨by simp[h.1],fun i x x' hx hx'=>?_⟩;rw[List.getElem?_append]at hx hx';rw[←h.1]at hx';split at hx<;>split at hx'
 ·exact h.2 i x x' hx hx'
 ·omega
 ·omega
 ·have hi:i - r.length=0:=by
   have:=(Ab.1 hx).1;simp at this;omega
  rw[hi]at hx hx';simp at hx hx';subst hx hx';exact⟨h1,h2⟩
theorem Jqs(l:List Bk):Sim l (l.map szR):=by
 refine⟨by simp,fun i p p' h1 h2=>?_⟩;rw[List.getElem?_map,h1]at h2;simp at h2;subst h2;exact⟨Ja4 p,Jc8 p⟩
theorem Sim.body:∀{r q:List Bk},Sim r q→∀i,Cn (r.take i)=Cn (q.take i)
 | [], [],_,i=>by simp
 | [],x::q,h,_=>by have:=h.1;simp at this
 |x::r, [],h,_=>by have:=h.1;simp at this
 |x::r,y::q,h,0=>by simp
 |x::r,y::q,h,i+1=>by
  have h0:=(h.2 0 x y rfl rfl).1;have ht:Sim r q:=⟨by have:=h.1;simpa using this,fun j p p' h1 h2=>h.2 (j+1) p p' (by simpa using h1) (by simpa using h2)⟩
  have ih:=ht.body i;unfold Cn at ih⊢;rw[List.take_succ_cons,List.take_succ_cons,List.flatMap_cons,List.flatMap_cons,ih,h0]
theorem Sim.heads{r q:List Bk}(h:Sim r q)(pl:List Nat):Ip (0::pl) (Fw::r) (r.length+1)=Fj pl q q.length:=by
 unfold Ip Fj;rw[List.range_succ_eq_map,List.flatMap_cons,List.flatMap_map,←h.1];congr 1;refine congrArg List.flatten (List.map_congr_left fun i hi=>?_);have hir:i < r.length:=List.mem_range.1 hi;have hiq:i < q.length:=by rw[←h.1];exact hir
 obtain⟨h1,h2⟩:=h.2 i _ _ (Ae hir) (Ae hiq);have hb:=h.body i;unfold Jdi Ur;rw[show(Fw::r)[i.succ]?=r[i]? from rfl,Ae hir,Ae hiq];simp only;have hbt:Cn ((Fw::r).take i.succ)=Cn (r.take i):=by
  rw[List.take_succ_cons];unfold Cn;rw[List.flatMap_cons];rfl
 rw[hbt,hb];congr 1;unfold Qj Lr;rw[h2];simp[szT]
theorem Jjw{o:Az}(hl:Ho o):Rw (ownPs o)=bytesOf o:=by
 have hp:=Je2 hl;have hn:Bh (Ci o)= []::Bh (ownPs o):=by rw[Nf,Jil,hp,Jjq]
 have hsim:Sim (Qi o++ [Mn (Bh (Ci o))]) (ownAll (ownPs o)):=by
  unfold ownAll;refine Sim.snoc (by rw[hp];exact Jqs _) ?_ ?_
  ·show(Cj _).tb=(Cj _).tb;rw[hn,Jes]
  ·show szT Dc _=szT Dc _;rw[hn];rfl
 have hal:allOf o=Fw::(Qi o++ [Mn (Bh (Ci o))]):=by unfold allOf;rw[Nf];rfl
 have hlen:(allOf o).length=(ownAll (ownPs o)).length+1:=by rw[hal,List.length_cons,hsim.1]
 have hbody:Cn (allOf o)=Cn (ownAll (ownPs o)):=by
  have h1:=hsim.body (Qi o++ [Mn (Bh (Ci o))]).length;rw[List.take_length,List.take_of_length_le (by rw[hsim.1];exact Af _)]at h1;rw[hal];unfold Cn at h1⊢;rw[List.flatMap_cons,h1];rfl
 have hheads:Ip (placesOf (Bh (Ci o))) (allOf o) (allOf o).length=Fj (placesOf (Bh (ownPs o))) (ownAll (ownPs o)) (ownAll (ownPs o)).length:=by
  have h1:=hsim.heads (placesOf (Bh (ownPs o)));rw[hn,Jf2,hal,List.length_cons];exact h1
 rw[Pq,hheads,hbody,hlen];unfold Rw;rw[show(ownAll (ownPs o)).length+1 - 1=(ownAll (ownPs o)).length by omega,Nat.add_comm (ownAll (ownPs o)).length 1]
theorem Jnc{o:Az}(hl:Ho o):Sj (ownPs o):=by
 have hp:=Je2 hl;have hlen:(ownPs o).length=Dv o+1:=by
  have h1:=Hy o;rw[Nf,List.length_cons]at h1;rw[hp,List.length_map];omega
 have hmem:∀p∈ownPs o,∃r∈Ci o,p=szR r:=fun p h=>by
  rw[hp]at h;obtain⟨r,hr,rfl⟩:=List.mem_map.1 h;exact⟨r,by rw[Nf];exact List.mem_cons_of_mem _ hr,rfl⟩
 refine⟨by rw[hlen];have:=Kn hl;omega,fun p h=>?_,fun p h=>?_⟩
 ·obtain⟨r,hr,rfl⟩:=hmem p h;obtain⟨h0,h1,h2,h3,h4,h5,h6,h7,h8,h9⟩:=Xh hl r hr;refine⟨by rw[Ja4];exact h0,?_⟩;rw[Jc8];refine⟨h1,h2,h3,h4,?_,h6,h7,h8,h9⟩;show Bu (if r.h.b=8 then r.h.f else(r.b.length:Int))=true;split
  ·exact h5
  ·exact Ph _ (by omega)
 ·obtain⟨r,hr,rfl⟩:=hmem p h;rw[Jcx];exact Oz hl r hr
end Go.Proofs.YteopgmieindojaaGreat
