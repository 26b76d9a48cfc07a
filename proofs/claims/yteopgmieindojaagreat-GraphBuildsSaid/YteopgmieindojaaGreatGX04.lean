/- Parts of a proof. -/
import Derived.Test.YteopgmieindojaaGreatGX03
import Derived.Test.YteopgmieindojaaGreatGX01
import Derived.LoopTactic
import Derived.Lib.Hide
import Derived.Outline
import Derived.WalkSpells
import Derived.OwnWalk
import Derived.Deep.RegionHeld3
import Derived.Deep.AppendLies
import Derived.Deep.QuietTactic
import Derived.BigQuiet
set_option maxRecDepth 1000000
set_option maxHeartbeats 8000000
namespace Go.Proofs.YteopgmieindojaaGreat
open Go.RowKit
structure Cq where
 (obj sec at_:Int)
abbrev Jy (x:Cq):Array Value:=#[.int .i64 x.obj,.int .i64 x.sec,.int .i64 x.at_]
def Hj(D:List (List Bool))(o:Nat)(x:Ct):Cq × Int:=bif decide (x.sec < 1)then(⟨0,0,x.value⟩,0)else bif (Cz D o)[(x.sec - 1).toNat]?.getD false then(⟨0,0,0⟩,4)else(⟨(o:Int),x.sec,x.value⟩,0)
theorem Wg{fn:Func}{p u:Tmp}(h:fn.results= #[.cell p 70,.tmp u])(tmps:Array Value)(w:World)(g:Nat)(v0 v1 v2 b:Value)(hp:tmps.getD p undef= .pointer (some ⟨g,0,none⟩))(hu:tmps.getD u undef=b)
 (hg:w.heap[g]?=some (.cells #[v0,v1,v2] 70 (0,0))):(results fn tmps).run Tryz.prog w= .ok (.tuple #[.agg #[v0,v1,v2],b]) w:=by
 obtain⟨⟨r0,r1,r2⟩,_⟩:=Bj _ _ _ _ _ _ hg;rw[results_cell_tmp h,hp,hu];go_simp
def Kx(r:Cq × Int)(w:World)(e:Ending)(w':World):Prop:=e= .returned (.tuple #[.agg (Jy r.1),.int .i64 r.2])∧Below w.heap.size w w'
theorem Zr{tmps:Array Value}{W w:World}{B:Nat}{r:Cq × Int}{x:Cq}{n:Int}(h8:tmps.getD 8 undef= .pointer (some ⟨B+1,0,none⟩))(h9:tmps.getD 9 undef= .int .i64 n)(hB:w.heap.size=B)
 (hR:W.heap[B+1]?=some (.cells (Jy x) 70 (0,0)))(hb:Below B w W)(he:r=(x,n)):bodyPost Tryz.prog Tryz.f66 (Kx r w) Exit.ret ⟨tmps, []⟩ W:=by
 subst hB;subst he;exact bodyPost_ret (Wg rfl _ _ _ _ _ _ _ h8 h9 hR) rfl ⟨rfl,hb⟩
theorem Jl7(p pd:Option Addr)(c cd o s:Nat)(vf:Value)(l:List Az)(D:List (List Bool))(w:World)(h:Bg 5 Cg w p l)(hok:∀o∈l,OkD o)(hD:Er w pd l D){ob:Az}{x:Ct}(ho:l[o]?=some ob)(hs:ob.syms[s]?=some x):
 Calls Tryz.prog 66 #[.slice p l.length c,.agg #[.slice pd D.length cd,vf],.int .i64 (o:Int),.int .i64 (s:Int)] w (Kx (Hj D o x) w):=by
 obtain⟨wa,hwa⟩:∃wa,wa=w.alloc (.cells #[.slice pd D.length cd,vf] 54):=⟨_,rfl⟩
 obtain⟨wb,hwb⟩:∃wb,wb=wa.alloc (.cells #[.int .i64 0,.int .i64 0,.int .i64 0] 70):=⟨_,rfl⟩
 have ha:Below w.heap.size w wa:=by rw[hwa];exact(Ag _ w).alloc (Af _) _
 have hb:Below wa.heap.size wa wb:=by rw[hwb];exact(Ag _ wa).alloc (Af _) _
 have sa:wa.heap.size=w.heap.size+1:=by rw[hwa];simp
 have sb:wb.heap.size=w.heap.size+2:=by rw[hwb];simp[sa]
 have hA0:wa.heap[w.heap.size]?=some (.cells #[.slice pd D.length cd,vf] 54 (0,0)):=by rw[hwa];exact Ah w _
 have hAb:=(hb.block _ (by omega)).trans hA0;have hRb:wb.heap[wa.heap.size]?=some (.cells #[.int .i64 0,.int .i64 0,.int .i64 0] 70 (0,0)):=by rw[hwb];exact Ah wa _
 rw[sa]at hRb;have hwb0:Below w.heap.size w wb:=ha.trans (hb.mono ha.size);have hob:=hok ob (Ad ho);have hsec:=hob.sec x (Ad hs);have hol:o < l.length:=(Ab.1 ho).1;obtain⟨b,off,p0,p1,p2,p4,c0,c1,c2,c4,hpe,e0,e1,e2,_,_,_,hsy,_,_,_⟩:=Du (h.below Cg.keeps hwb0) ho;subst hpe;have hsl:s < ob.syms.length:=(Ab.1 hs).1;obtain⟨b1,off1,x',hpe1,hx',⟨f0,_⟩,⟨f1,_⟩,⟨f2,_⟩,⟨f3,_⟩,⟨f4,_⟩,⟨f5,_⟩⟩:=hsy.at_ hsl;subst hpe1;obtain rfl:x'=x:=by rw[hs]at hx';cases hx';rfl
 have hdd:=hD.below hwb0;have hid:o < D.length:=by rw[hD.len];exact hol
 obtain⟨bd,od,qd,cq,hpd,hdc,hdh⟩:=Oa hdd.has hid;subst hpd;have hrow:=hdd.row o ob ho;obtain⟨⟨a0,a1⟩,_⟩:=Bz _ _ _ _ _ hAb;obtain⟨r,hr⟩:∃r,r=Hj D o x':=⟨_,rfl⟩
 rw[←hr];have hr2:r=bif decide (x'.sec < 1)then(⟨0,0,x'.value⟩,0)else bif (Cz D o)[(x'.sec - 1).toNat]?.getD false then(⟨0,0,0⟩,4)else(⟨(o:Int),x'.sec,x'.value⟩,0):=hr
 have HR:=Aa hr2;have HWA:=Aa hwa;have HWB:=Aa hwb;have HRB:=Aa hRb;have HWB0:=Aa hwb0;have HSB:=Aa sb;have HDH:=Aa hdh;have HROW:=Aa hrow;have HQ:=Aa hob.few.1;have hyb:=hob.few.2.1;generalize hdn:D.length=dn at*;generalize hln:l.length=ln at*;generalize ob.syms.length=yn at*;generalize hrn:(Cz D o).length=rn at*;have HRN:=Aa hrn;have hJ:(o:Int) < (ln:Int):=by omega
 have hJ2:(s:Int) < (yn:Int):=by omega
 have hJ3:(o:Int) < (dn:Int):=by omega
 clear h hok hD ho hs hwa hwb ha hb sa sb hA0 hAb hRb hwb0 hob hx' hdd hrow hr hr2 hsy hdh hdn hln hrn e0 e2;go_enter Tryz.func66,Tryz.ntmps66;go_upto_region 1 with fail
 rw[←HWA.out,←HWB.out];clear HWA HWB;generalize hgb:w.heap.size=gb at*;have HGB:=Aa hgb;clear hgb;go_upto_region 2 with fail
 have hb3:Below wb.heap.size wb (wb.alloc (.cells #[.string x'.name,.int .i64 x'.bind,.int .i64 x'.type,.int .i64 x'.sec,.int .i64 x'.value,.int .i64 x'.size] 98)):=(Ag _ wb).alloc (Af _) _;obtain⟨x0,x1,x2,x3,x4,x5⟩:=Ky _ _ _ _ _ _ _ _ _ (Ah wb (.cells #[.string x'.name,.int .i64 x'.bind,.int .i64 x'.type,.int .i64 x'.sec,.int .i64 x'.value,.int .i64 x'.size] 98));have hR3:=(hb3.block (gb+1) (by have:=HSB.out;omega)).trans HRB.out;have a0':=Ax hb3 a0;have hdc':=Ax hb3 hdc;have hw3:=HWB0.out.trans (hb3.mono (by have:=HSB.out;omega));have hdh3:=HDH.out.below Ij.keeps hb3;have hsz3:gb+2≤(wb.alloc (.cells #[.string x'.name,.int .i64 x'.bind,.int .i64 x'.type,.int .i64 x'.sec,.int .i64 x'.value,.int .i64 x'.size] 98)).heap.size:=by have:=hb3.size;have:=HSB.out;omega
 generalize wb.alloc (.cells #[.string x'.name,.int .i64 x'.bind,.int .i64 x'.type,.int .i64 x'.sec,.int .i64 x'.value,.int .i64 x'.size] 98)=w3 at*;generalize wb.heap.size=g3 at*;have HR3:=Aa hR3;have HW3:=Aa hw3;obtain⟨⟨r0,r1,r2⟩,r3,r4,r5⟩:=Bj _ _ _ _ _ _ hR3;clear hb3 hR3 hw3 a0 hdc e1 f0 f1 f2 f3 f4 f5;by_cases hs1:x'.sec < 1
 ·have hE:Hid (r=(⟨0,0,x'.value⟩,0)):=Aa (by rw[HR.out,Aj hs1];rfl);have hst:=Cy (.int .i64 0) (.int .i64 0) (.int .i64 x'.value) (by omega:gb≤gb+1) HR3.out;have HST:=Aa hst;clear hst;go_wp2_with fail
  exact Zr (x:=⟨0,0,x'.value⟩) (by rfl) (by rfl) HGB.out HST.out.1 (HW3.out.trans (HST.out.2.below (by omega))) hE.out
 ·obtain⟨m,hm⟩:∃m:Nat,x'.sec=((m+1:Nat):Int):=⟨(x'.sec - 1).toNat,by omega⟩
  have hmn:m < (Cz D o).length:=by rw[HRN.out];have:=HROW.out;omega
  obtain⟨b5,off5,d,hpe5,hd,hc⟩:=hdh3.at_ hmn;subst hpe5;have hc:w3.cell? ⟨b5,off5+m*1,none⟩=some (.bool d):=hc;rw[Nat.mul_one]at hc;have k1:IntKind.i64.wrap (x'.sec - 1)=(m:Int):=by rw[show x'.sec - 1=(m:Int) by omega];exact Al _ (by omega)
  have hK:(m:Int) < (rn:Int):=by rw[HRN.out]at hmn;omega
  have hE0:Hid (r=bif d then(⟨0,0,0⟩,4)else(⟨(o:Int),x'.sec,x'.value⟩,0)):=Aa (by rw[HR.out,Ai hs1,hm,show(((m+1:Nat):Int) - 1).toNat=m by omega,hd];rfl);clear hm hd hmn hdh3;go_upto_region 4 with fail
  go_quiet (fail);have hd2:Below w3.heap.size w3 (w3.drewN nq):=Bq (Ag _ w3) _;have hR4:=(hd2.block (gb+1) (by omega)).trans HR3.out;have hw4:=HW3.out.trans (hd2.mono (by omega));have x3':=Ax hd2 x3;have x4':=Ax hd2 x4;have hsz4:gb+2≤(w3.drewN nq).heap.size:=Aw hsz3 hd2.size;generalize w3.drewN nq=w4 at*;have HR4:=Aa hR4;have HW4:=Aa hw4;clear r0 r1 r2 r3 r4 r5 hd2 hw4 a0' hdc' hc x0 x1 x2 x3 x4 x5;obtain⟨⟨r0,r1,r2⟩,r3,r4,r5⟩:=Bj _ _ _ _ _ _ hR4;clear hR4;cases d with
  |true=>
   have hE:Hid (r=(⟨0,0,0⟩,4)):=Aa hE0.out;have hst:=Cy (.int .i64 0) (.int .i64 0) (.int .i64 0) (by omega:gb≤gb+1) HR4.out;have HST:=Aa hst;clear hst;go_wp2_with fail
   exact Zr (x:=⟨0,0,0⟩) (by rfl) (by rfl) HGB.out HST.out.1 (HW4.out.trans (HST.out.2.below (by omega))) hE.out
  |false=>
   have hE:Hid (r=(⟨(o:Int),x'.sec,x'.value⟩,0)):=Aa hE0.out;have hst:=Cy (.int .i64 (o:Int)) (.int .i64 x'.sec) (.int .i64 x'.value) (by omega:gb≤gb+1) HR4.out;have HST:=Aa hst;clear hst;go_wp2_with fail
   exact Zr (x:=⟨(o:Int),x'.sec,x'.value⟩) (by rfl) (by rfl) HGB.out HST.out.1 (HW4.out.trans (HST.out.2.below (by omega))) hE.out
theorem Zb{l:List Az}{n:Nat}{D:List (List Bool)}{name:ByteArray}{d:Bb}(h:findIn (Bc Az.syms l n) D name=some d):∃ob y,l[d.obj]?=some ob∧ob.syms[d.sym]?=some y∧Cw y (Cz D d.obj)=true∧y.name=name∧(y.bind=1∨y.bind=2):=by
 have hh:∀b,Ef name (hitsIn (Bc Az.syms l n) D name b)=some d→∃ob y,l[d.obj]?=some ob∧ob.syms[d.sym]?=some y∧Cw y (Cz D d.obj)=true∧y.name=name∧y.bind=b:=fun b h=>by
  unfold Ef at h;cases hq:(hitsIn (Bc Az.syms l n) D name b).head? with
  |none=>rw[hq]at h;cases h
  |some x=>
   rw[hq]at h;have hm:x∈hitsIn (Bc Az.syms l n) D name b:=List.mem_of_mem_head? hq;obtain⟨h1,h2⟩:=List.mem_filter.1 hm;unfold Ii at h2;simp only[Bool.and_eq_true,beq_iff_eq]at h2;obtain⟨i,k,s⟩:=x;obtain⟨_,ob,h3,h4⟩:=Gh.1 h1;cases h;exact⟨ob,s,h3,h4,h2.1,Df.1 h2.2.1,h2.2.2⟩
 unfold findIn at h;cases h1:Ef name (hitsIn (Bc Az.syms l n) D name 1)with
 |some d'=>
  rw[h1]at h;cases h;obtain⟨ob,y,a,b,c,e,f⟩:=hh 1 h1;exact⟨ob,y,a,b,c,e,.inl f⟩
 |none=>
  rw[h1]at h;obtain⟨ob,y,a,b,c,e,f⟩:=hh 2 h;exact⟨ob,y,a,b,c,e,.inr f⟩
def symAt2(l:List Az)(o s:Nat):Option Ct:=match l[o]? with|some ob=>ob.syms[s]?|none=>none
def Hw(l:List Az)(D:List (List Bool))(o:Nat)(x:Ct):Cq × Int:=bif x.bind==0 then Hj D o x else match findIn (Bc Az.syms l l.length) D x.name with
 |some d=>(match symAt2 l d.obj d.sym with|some y=>Hj D d.obj y|none=>(⟨0,0,0⟩,1))
 |none=>bif x.bind==2 then(⟨0,0,0⟩,0)else(⟨0,0,0⟩,4)
def Ck(l:List Az)(D:List (List Bool))(o s:Int):Cq × Int:=if o < 0∨(l.length:Int)≤o∨s < 0 then(⟨0,0,0⟩,1)else match symAt2 l o.toNat s.toNat with
 |some x=>Hw l D o.toNat x
 |none=>(⟨0,0,0⟩,1)
theorem Kd{tmps:Array Value}{W w:World}{B:Nat}{r:Cq × Int}{x:Cq}{n:Int}(h8:tmps.getD 8 undef= .pointer (some ⟨B+1,0,none⟩))(h9:tmps.getD 9 undef= .int .i64 n)(hB:w.heap.size=B)
 (hR:W.heap[B+1]?=some (.cells (Jy x) 70 (0,0)))(hb:Below B w W)(he:r=(x,n)):bodyPost Tryz.prog Tryz.f26 (Kx r w) Exit.ret ⟨tmps, []⟩ W:=by
 subst hB;subst he;exact bodyPost_ret (Wg rfl _ _ _ _ _ _ _ h8 h9 hR) rfl ⟨rfl,hb⟩
theorem Jk3(r:Cq × Int):∃(x:Cq)(n:Int),r=(x,n):=⟨r.1,r.2,rfl⟩
theorem Sf(p pd:Option Addr)(c cd:Nat)(o s:Int)(vf:Value)(l:List Az)(D:List (List Bool))(w:World)(h:Bg 5 Cg w p l)(hok:∀o∈l,OkD o)(hlc:l.length≤1000)(hD:Er w pd l D)(hob:Bn o)(hsb:Bn s):
 Calls Tryz.prog 26 #[.slice p l.length c,.agg #[.slice pd D.length cd,vf],.int .i64 o,.int .i64 s] w (Kx (Ck l D o s) w):=by
 obtain⟨wa,hwa⟩:∃wa,wa=w.alloc (.cells #[.slice pd D.length cd,vf] 54):=⟨_,rfl⟩
 obtain⟨wb,hwb⟩:∃wb,wb=wa.alloc (.cells #[.int .i64 0,.int .i64 0,.int .i64 0] 70):=⟨_,rfl⟩
 have ha:Below w.heap.size w wa:=by rw[hwa];exact(Ag _ w).alloc (Af _) _
 have hb:Below wa.heap.size wa wb:=by rw[hwb];exact(Ag _ wa).alloc (Af _) _
 have sa:wa.heap.size=w.heap.size+1:=by rw[hwa];simp
 have sb:wb.heap.size=w.heap.size+2:=by rw[hwb];simp[sa]
 have hA0:wa.heap[w.heap.size]?=some (.cells #[.slice pd D.length cd,vf] 54 (0,0)):=by rw[hwa];exact Ah w _
 have hAb:=(hb.block _ (by omega)).trans hA0;have hRb:wb.heap[wa.heap.size]?=some (.cells #[.int .i64 0,.int .i64 0,.int .i64 0] 70 (0,0)):=by rw[hwb];exact Ah wa _
 rw[sa]at hRb;have hwb0:Below w.heap.size w wb:=ha.trans (hb.mono ha.size);obtain⟨r,hr⟩:∃r,r=Ck l D o s:=⟨_,rfl⟩
 rw[←hr];have HR:=Aa hr;have HWA:=Aa hwa;have HWB:=Aa hwb;have HAB:=Aa hAb;have HRB:=Aa hRb;have HWB0:=Aa hwb0;have HSB:=Aa sb;have HH:=Aa h;have HOK:=Aa hok;have HD:=Aa hD;have HOW:=Aa fun W (hW:Below w.heap.size w W)(o s:Nat)(ob:Az)(x:Ct)(ho:l[o]?=some ob)(hs:ob.syms[s]?=some x)=>Jl7 p pd c cd o s vf l D W (h.below Cg.keeps hW) hok (hD.below hW) ho hs;have HFI:=Aa fun W (hW:Below w.heap.size w W)(name:ByteArray)=>Jaj p pd c cd vf l D name W (h.below Cg.keeps hW) hok hlc (hD.below hW);have hob1:=hob.1;have hob2:=hob.2;have hsb1:=hsb.1;have hsb2:=hsb.2;generalize hdn:D.length=dn at*;generalize hln:l.length=ln at*;have HLN:=Aa hln;clear h hok hD hwa hwb ha hb sa sb hA0 hAb hRb hwb0 hr hdn hln hob hsb;go_enter Tryz.func26,Tryz.ntmps26;go_upto_region 1 with fail
 rw[←HWA.out,←HWB.out];clear HWA HWB;generalize hgb:w.heap.size=gb at*;have HGB:=Aa hgb;clear hgb;obtain⟨⟨r0,r1,r2⟩,r3,r4,r5⟩:=Bj _ _ _ _ _ _ HRB.out;have hstz:=Cy (.int .i64 0) (.int .i64 0) (.int .i64 0) (by omega:gb≤gb+1) HRB.out;have HSTZ:=Aa hstz;have hgbs:gb≤wb.heap.size:=by have:=HSB.out;omega
 clear hstz;by_cases ho0:o < 0
 ·have hE:Hid (r=(⟨0,0,0⟩,1)):=Aa (by rw[HR.out];unfold Ck;rw[if_pos (.inl ho0)]);go_wp2_with fail
  exact Kd (x:=⟨0,0,0⟩) (by rfl) (by rfl) HGB.out HSTZ.out.1 (HWB0.out.trans (HSTZ.out.2.below hgbs)) hE.out
 by_cases ho1:(ln:Int)≤o
 ·have hE:Hid (r=(⟨0,0,0⟩,1)):=Aa (by rw[HR.out];unfold Ck;rw[HLN.out,if_pos (.inr (.inl ho1))]);go_wp2_with fail
  exact Kd (x:=⟨0,0,0⟩) (by rfl) (by rfl) HGB.out HSTZ.out.1 (HWB0.out.trans (HSTZ.out.2.below hgbs)) hE.out
 obtain⟨on,hon⟩:=Au (show 0≤o by omega);subst hon;have hol:on < ln:=by omega
 obtain⟨ob,hoo⟩:∃ob,l[on]?=some ob:=⟨_,Ae (by rw[HLN.out];exact hol)⟩
 have hJ:(on:Int) < (ln:Int):=by omega
 have hJ':¬(ln:Int)≤(on:Int):=by omega
 obtain⟨b,off,p0,p1,p2,p4,c0,c1,c2,c4,hpe,e0,e1,e2,_,_,_,hsy,_,_,_⟩:=Du (HH.out.below Cg.keeps (show Below w.heap.size w wb by rw[HGB.out];exact HWB0.out)) hoo;subst hpe;have HOO:=Aa hoo;have hyb:=(HOK.out ob (Ad hoo)).few.2.1;generalize hyn:ob.syms.length=yn at*;have HYN:=Aa hyn;clear hoo hyn ho0 ho1 e0 e2;by_cases hs0:s < 0
 ·have hE:Hid (r=(⟨0,0,0⟩,1)):=Aa (by rw[HR.out];unfold Ck;rw[if_pos (.inr (.inr hs0))]);go_wp2_with fail
  exact Kd (x:=⟨0,0,0⟩) (by rfl) (by rfl) HGB.out HSTZ.out.1 (HWB0.out.trans (HSTZ.out.2.below hgbs)) hE.out
 obtain⟨sn,hsn⟩:=Au (show 0≤s by omega);subst hsn;have hr1:r=match symAt2 l on sn with|some x=>Hw l D on x|none=>(⟨0,0,0⟩,1):=by
  rw[HR.out];unfold Ck;rw[HLN.out,if_neg (by omega),Int.toNat_natCast,Int.toNat_natCast]
 have hsa2:symAt2 l on sn=ob.syms[sn]?:=by unfold symAt2;rw[HOO.out]
 rw[hsa2]at hr1;have HR1:=Aa hr1;clear hr1 hsa2 HR;by_cases hs1:yn≤sn
 ·have hE:Hid (r=(⟨0,0,0⟩,1)):=Aa (by rw[HR1.out,List.getElem?_eq_none (by rw[HYN.out];exact hs1)]);have hK:(yn:Int)≤(sn:Int):=by omega
  go_wp2_with fail
  exact Kd (x:=⟨0,0,0⟩) (by rfl) (by rfl) HGB.out HSTZ.out.1 (HWB0.out.trans (HSTZ.out.2.below hgbs)) hE.out
 have hsl:sn < yn:=by omega
 obtain⟨b1,off1,x,hpe1,hx,⟨f0,_⟩,⟨f1,_⟩,⟨f2,_⟩,⟨f3,_⟩,⟨f4,_⟩,⟨f5,_⟩⟩:=hsy.at_ (i:=sn) (by rw[HYN.out];exact hsl);subst hpe1;have hr2:r=Hw l D on x:=by rw[HR1.out,hx]
 have HX:=Aa hx;have HR2:=Aa hr2;have hK:(sn:Int) < (yn:Int):=by omega
 have hK':¬(yn:Int)≤(sn:Int):=by omega
 clear hx hr2 HR1 hs0 hs1 hsy r0 r1 r2 r3 r4 r5 HSTZ;go_upto_region 6 with fail
 have hb3:Below wb.heap.size wb (wb.alloc (.cells #[.string x.name,.int .i64 x.bind,.int .i64 x.type,.int .i64 x.sec,.int .i64 x.value,.int .i64 x.size] 98)):=(Ag _ wb).alloc (Af _) _;obtain⟨x0,x1,x2,x3,x4,x5⟩:=Ky _ _ _ _ _ _ _ _ _ (Ah wb (.cells #[.string x.name,.int .i64 x.bind,.int .i64 x.type,.int .i64 x.sec,.int .i64 x.value,.int .i64 x.size] 98));have hR3:=(hb3.block (gb+1) (by have:=HSB.out;omega)).trans HRB.out;have hA3:=(hb3.block gb (by have:=HSB.out;omega)).trans HAB.out;have hw3:=HWB0.out.trans (hb3.mono hgbs);have hsz3:gb+2≤(wb.alloc (.cells #[.string x.name,.int .i64 x.bind,.int .i64 x.type,.int .i64 x.sec,.int .i64 x.value,.int .i64 x.size] 98)).heap.size:=by have:=hb3.size;have:=HSB.out;omega
 generalize wb.alloc (.cells #[.string x.name,.int .i64 x.bind,.int .i64 x.type,.int .i64 x.sec,.int .i64 x.value,.int .i64 x.size] 98)=w3 at*;generalize wb.heap.size=g3 at*;have HR3:=Aa hR3;have HA3:=Aa hA3;have HW3:=Aa hw3;obtain⟨⟨a0,a1⟩,_⟩:=Bz _ _ _ _ _ hA3;clear hb3 hR3 hA3 hw3 e1 f0 f1 f2 f3 f4 f5;cases hbd:(x.bind==0)with
 |true=>
  have hr3:r=Hj D on x:=by rw[HR2.out];unfold Hw;rw[hbd];rfl
  obtain⟨y,n,hyn⟩:=Jk3 (Hj D on x);have HOX:=Aa (HOW.out w3 (by first|exact HW3.out|(rw[HGB.out];exact HW3.out)) on sn ob x HOO.out HX.out);unfold Kx at HOX;rw[hyn]at HOX hr3;have hE:Hid (r=(y,n)):=Aa hr3;clear hr3 hyn;go_wp2_with fail
  refine HOX.out.mono ?_;rintro e w4 ⟨rfl,hb4⟩;have hR4:=(hb4.block (gb+1) (by omega)).trans HR3.out;have hw4:=HW3.out.trans (hb4.mono (by omega));have hsz4:gb+2≤w4.heap.size:=Aw hsz3 hb4.size;obtain⟨⟨r0,r1,r2⟩,r3,r4,r5⟩:=Bj _ _ _ _ _ _ hR4;have hst:=Cy (.int .i64 y.obj) (.int .i64 y.sec) (.int .i64 y.at_) (by omega:gb≤gb+1) hR4;have HST:=Aa hst;have HW4:=Aa hw4;clear hst hw4 hR4 hb4;go_wp2_with fail
  exact Kd (x:=y) (by rfl) (by rfl) HGB.out HST.out.1 (HW4.out.trans (HST.out.2.below (by omega))) hE.out
 |false=>
  have hr3:r=match findIn (Bc Az.syms l l.length) D x.name with
   |some d=>(match symAt2 l d.obj d.sym with|some y=>Hj D d.obj y|none=>(⟨0,0,0⟩,1))
   |none=>bif x.bind==2 then(⟨0,0,0⟩,0)else(⟨0,0,0⟩,4):=by rw[HR2.out];unfold Hw;rw[hbd];rfl
  have HFX:=Aa (HFI.out w3 (by first|exact HW3.out|(rw[HGB.out];exact HW3.out)) x.name);cases hfi:findIn (Bc Az.syms l l.length) D x.name with
  |none=>
   have hfd:Kj (Bc Az.syms l l.length) D x.name=noDef:=by unfold Kj;rw[hfi];rfl
   have hfl:(findIn (Bc Az.syms l ln) D x.name)=none:=by rw[←HLN.out];exact hfi
   have hfd2:Kj (Bc Az.syms l ln) D x.name=noDef:=by rw[←HLN.out];exact hfd
   rw[hfl,hfd2]at HFX;rw[hfi]at hr3;have HR3':=Aa hr3;clear hr3 hfi hfd hfl hfd2;simp only[Option.isSome_none]at HFX;go_upto_region 9 with(first|(go_at_call 24;refine HFX.out.mono ?_;rintro e w4 ⟨rfl,hb4⟩)|fail)
   have hb5:Below w3.heap.size w3 (w4.alloc (.cells #[.string noDef.name,.int .i64 (noDef.obj:Int),.int .i64 (noDef.sym:Int)] 63)):=hb4.alloc hb4.size _;have hR4:=(hb5.block (gb+1) (by omega)).trans HR3.out;have hw5:=HW3.out.trans (hb5.mono (by omega));have x1':=Ax hb5 x1;have hsz5:gb+2≤(w4.alloc (.cells #[.string noDef.name,.int .i64 (noDef.obj:Int),.int .i64 (noDef.sym:Int)] 63)).heap.size:=Aw hsz3 hb5.size;generalize w4.alloc (.cells #[.string noDef.name,.int .i64 (noDef.obj:Int),.int .i64 (noDef.sym:Int)] 63)=w5 at*;generalize w4.heap.size=g4 at*;obtain⟨⟨r0,r1,r2⟩,r3,r4,r5⟩:=Bj _ _ _ _ _ _ hR4;have hst:=Cy (.int .i64 0) (.int .i64 0) (.int .i64 0) (by omega:gb≤gb+1) hR4;have HST:=Aa hst;have HW5:=Aa hw5;clear hst hw5 hR4 hb4 hb5 x0 x1 x2 x3 x4 x5 a0 a1;cases hb2:(x.bind==2)with
   |true=>
    have hE:Hid (r=(⟨0,0,0⟩,0)):=Aa (by rw[HR3'.out,hb2];rfl);go_wp2_with fail
    exact Kd (x:=⟨0,0,0⟩) (by rfl) (by rfl) HGB.out HST.out.1 (HW5.out.trans (HST.out.2.below (by omega))) hE.out
   |false=>
    have hE:Hid (r=(⟨0,0,0⟩,4)):=Aa (by rw[HR3'.out,hb2];rfl);go_wp2_with fail
    exact Kd (x:=⟨0,0,0⟩) (by rfl) (by rfl) HGB.out HST.out.1 (HW5.out.trans (HST.out.2.below (by omega))) hE.out
  |some d=>
   obtain⟨ob2,y,hob2,hy2,_⟩:=Zb hfi;have hfd:Kj (Bc Az.syms l ln) D x.name=d:=by rw[←HLN.out];unfold Kj;rw[hfi];rfl
   have hfl:(findIn (Bc Az.syms l ln) D x.name)=some d:=by rw[←HLN.out];exact hfi
   rw[hfl,hfd]at HFX;have hsy2:symAt2 l d.obj d.sym=some y:=by unfold symAt2;rw[hob2];exact hy2
   rw[hfi]at hr3;simp only[hsy2]at hr3;obtain⟨z,n,hzn⟩:=Jk3 (Hj D d.obj y);have HOX:=Aa fun W hW=>HOW.out W hW d.obj d.sym ob2 y hob2 hy2;unfold Kx at HOX;rw[hzn]at HOX hr3;have hE:Hid (r=(z,n)):=Aa hr3;clear hr3 hfi hfd hfl hsy2 hob2 hy2 hzn;simp only[Option.isSome_some]at HFX;go_upto_region 9 with(first|(go_at_call 24;refine HFX.out.mono ?_;rintro e w4 ⟨rfl,hb4⟩)|fail)
   have hb5:Below w3.heap.size w3 (w4.alloc (.cells #[.string d.name,.int .i64 (d.obj:Int),.int .i64 (d.sym:Int)] 63)):=hb4.alloc hb4.size _;obtain⟨⟨d0,d1,d2⟩,_⟩:=Bj _ _ _ _ _ _ (Ah w4 (.cells #[.string d.name,.int .i64 (d.obj:Int),.int .i64 (d.sym:Int)] 63));have hR4:=(hb5.block (gb+1) (by omega)).trans HR3.out;have hw5:=HW3.out.trans (hb5.mono (by omega));have a0':=Ax hb5 a0;have a1':=Ax hb5 a1;have hsz5:gb+2≤(w4.alloc (.cells #[.string d.name,.int .i64 (d.obj:Int),.int .i64 (d.sym:Int)] 63)).heap.size:=Aw hsz3 hb5.size;generalize w4.alloc (.cells #[.string d.name,.int .i64 (d.obj:Int),.int .i64 (d.sym:Int)] 63)=w5 at*;generalize w4.heap.size=g4 at*;have HOX5:=Aa (HOX.out w5 (by first|exact hw5|(rw[HGB.out];exact hw5)));have HW5:=Aa hw5;have HR4:=Aa hR4;clear hw5 hR4 hb4 hb5 x0 x1 x2 x3 x4 x5 a0 a1;go_wp2_with fail
   refine HOX5.out.mono ?_;rintro e w6 ⟨rfl,hb6⟩;have hR6:=(hb6.block (gb+1) (by omega)).trans HR4.out;have hw6:=HW5.out.trans (hb6.mono (by omega));have hsz6:gb+2≤w6.heap.size:=Aw hsz5 hb6.size;obtain⟨⟨r0,r1,r2⟩,r3,r4,r5⟩:=Bj _ _ _ _ _ _ hR6;have hst:=Cy (.int .i64 z.obj) (.int .i64 z.sec) (.int .i64 z.at_) (by omega:gb≤gb+1) hR6;have HST:=Aa hst;have HW6:=Aa hw6;clear hst hw6 hR6 hb6 d0 d1 d2 a0' a1';go_wp2_with fail
   exact Kd (x:=z) (by rfl) (by rfl) HGB.out HST.out.1 (HW6.out.trans (HST.out.2.below (by omega))) hE.out
abbrev Gq (v0 v1 v2:Value) (sig:Bool) (v4:Value):Value:= .agg #[v0,v1,v2,.bool sig,v4]
def memberN(gs:List Cs)(n:Int):Nat:=(gs.map fun g=>g.members.count n).sum
theorem Jf1{gs:List Cs}{g:Cs}{i:Nat}(n:Int)(h:gs[i]?=some g):memberN (gs.take (i+1)) n=memberN (gs.take i) n+g.members.count n:=by
 unfold memberN;rw[List.take_add_one,h];simp
theorem Jhj{l:List Int}{x:Int}{k:Nat}(n:Int)(h:l[k]?=some x):(l.take (k+1)).count n=(l.take k).count n+(if x==n then 1 else 0):=by
 rw[List.take_add_one,h];simp[List.count_append,List.count_cons]
theorem Jig(v0 v1 v2:Value)(sig:Bool)(v4:Value)(gs:List Cs)(n:Int)(w:World)(hg:IsL 2 Ew w v2 gs)(hgl:gs.length≤1000000)(hml:∀g∈gs,g.members.length≤1000000):
 Calls Tryz.prog 123 #[Gq v0 v1 v2 sig v4,.int .i64 n] w fun e w'=>e= .returned (.int .i64 (memberN gs n:Int))∧Below w.heap.size w w':=by
 have hb:Below w.heap.size w (w.alloc (.cells #[v0,v1,v2,.bool sig,v4] 27)):=(Ag _ w).alloc (Af _) _;have hg1:=hg.below Ew.keeps hb;have hc2:(w.alloc (.cells #[v0,v1,v2,.bool sig,v4] 27)).cell? ⟨w.heap.size,2,none⟩=some v2:=by simp
 obtain⟨p,c,rfl,_,_,_,hgs⟩:=hg1;generalize hm:gs.length=m at*;have HG:=Aa hgs;have HML:=Aa hml;have HM:=Aa hm;clear hg hgs hml hm;go_enter Tryz.func123,Tryz.ntmps123;go_wp2_with fail
 generalize w.alloc (.cells #[v0,v1,.slice p m c,.bool sig,v4] 27)=w1 at*;generalize hgb:w.heap.size=gb at*;go_loop [5,6] (fun r5 r6=>∃(i q:Nat),i≤m∧r6= .int .i64 (i:Int)∧r5= .int .i64 (q:Int)∧q=memberN (gs.take i) n∧q≤i*1000000) (fun _ r6=>m - (intOf r6).toNat)
 case atStart=>exact⟨0,0,Ak _,rfl,rfl,rfl,Af _⟩
 case round=>
  obtain⟨i,q,hi,rfl,rfl,hq,hqb⟩:=hrel;have HQ:=Aa hq;clear hq;by_cases hlt:i < m
  ·obtain⟨b,off,g,rfl,hgi,hge⟩:=HG.out.at_ (i:=i) (by rw[HM.out];exact hlt);obtain⟨⟨hsym,_⟩,vm,hvm,pm,cm,rfl,hl1,hl2,hl3,hms⟩:=hge;have hlb:=HML.out g (Ad hgi);have HGI:=Aa hgi;have HMS:=Aa hms;generalize hml:g.members.length=ml at*;have HL:=Aa hml;have hI:(i:Int) < (m:Int):=by omega
   have hI0:(0:Int)≤(i:Int):=by omega
   clear hgi hms hml hsym hl3;go_wp2_with fail
   go_loop [5,7] (fun r5 r7=>∃(k q2:Nat),k≤ml∧r7= .int .i64 (k:Int)∧r5= .int .i64 (q2:Int)∧q2=q+(g.members.take k).count n∧q2≤q+k) (fun _ r7=>ml - (intOf r7).toNat)
   case atStart=>exact⟨0,q,Ak _,rfl,rfl,by simp,Af _⟩
   case round=>
    obtain⟨k,q2,hk,rfl,rfl,hq2,hqb2⟩:=hrel;have HQ2:=Aa hq2;clear hq2;by_cases hkl:k < ml
    ·obtain⟨b2,off2,x,rfl,hx,hxe⟩:=HMS.out.at_ (i:=k) (by rw[HL.out];exact hkl);have hcx:=hxe.1;rw[Nat.mul_one]at hcx;have HST:=Aa (Jhj n hx);have hJ:(k:Int) < (ml:Int):=by omega
     have hJ0:(0:Int)≤(k:Int):=by omega
     clear hx hxe;cases hxn:(x==n)with
     |true=>
      rw[hxn]at HST;go_wp2_with fail
      go_round
      case rel=>exact⟨k+1,q2+1,hkl,by go_num,by go_num,by rw[HST.out,HQ2.out];simp;omega,by omega⟩
      case measure=>simp[intOf];omega
     |false=>
      rw[hxn]at HST;go_wp2_with fail
      go_round
      case rel=>exact⟨k+1,q2,hkl,by go_num,rfl,by rw[HST.out,HQ2.out];simp,by omega⟩
      case measure=>simp[intOf];omega
    ·have hJ:¬(k:Int) < (ml:Int):=by omega
     have HE:Hid (q2=memberN (gs.take (i+1)) n):=Aa (by
      rw[Jf1 n HGI.out,←HQ.out,HQ2.out,List.take_of_length_le (by rw[HL.out];omega)])
     go_wp2_with fail
     go_round
     case rel=>exact⟨i+1,q2,hlt,by go_num,rfl,HE.out,by omega⟩
     case measure=>simp[intOf];omega
  ·have hI:¬(i:Int) < (m:Int):=by omega
   have HE:Hid (memberN gs n=q):=Aa (by rw[HQ.out,List.take_of_length_le (by rw[HM.out];omega)]);subst hgb;go_wp2_with fail
   go_ret;exact⟨by rw[HE.out];rfl,hb⟩
def wid(n:Int):Bool:=n==1 || n==2 || n==4 || n==8
theorem Py(n:Int):wid n=true ↔ n=1∨n=2∨n=4∨n=8:=by simp[wid,or_assoc]
theorem Ee{a b:Bool}(h:a=b):Ending.returned (.bool a)= .returned (.bool b):=by rw[h]
def win(l:List UInt8)(at_ n:Nat):List UInt8:=(l.take (at_+n)).drop at_
theorem Pg(l:List UInt8)(at_ n:Nat)(h:at_+n≤l.length):(win l at_ n).length=n:=by simp[win];omega
theorem Jqh(l:List UInt8)(at_ n i:Nat)(hi:i < n):(win l at_ n)[i]?=l[at_+i]?:=by
 simp only[win,List.getElem?_drop,List.getElem?_take];rw[if_pos (by omega)]
theorem Jpj{w:World}{b off:Nat}{l:List UInt8}(h:Has w (some ⟨b,off,none⟩) l)(j k:Nat)(hj:j+k≤l.length):Has w (some ⟨b,off+j,none⟩) (win l j k):=Has.of_plain fun i x hx=>by
 have hi:i < k:=by
  have:=(Ab.1 hx).1
  rwa [Pg l j k hj]at this
 rw[Jqh l j k i hi]at hx;have hl:0 < l.length:=by have:=(Ab.1 hx).1;omega
 obtain⟨b',off',e,hcell⟩:=h.plain hl;simp only[Option.some.injEq,Addr.mk.injEq,and_true]at e;obtain⟨rfl,rfl⟩:=e;rw[Nat.add_assoc];exact hcell _ _ hx
theorem Jnx(n:Int)(w:World):Calls Tryz.prog 136 #[.int .i64 n] w fun e w'=>e= .returned (.bool (wid n))∧w=w':=by
 by_cases h1:n=1
 ·subst h1;go_enter Tryz.func136,Tryz.ntmps136;go_wp2;go_ret;exact⟨rfl,rfl⟩
 by_cases h2:n=2
 ·subst h2;go_enter Tryz.func136,Tryz.ntmps136;go_wp2;go_ret;exact⟨rfl,rfl⟩
 by_cases h4:n=4
 ·subst h4;go_enter Tryz.func136,Tryz.ntmps136;go_wp2;go_ret;exact⟨rfl,rfl⟩
 by_cases h8:n=8
 ·subst h8;go_enter Tryz.func136,Tryz.ntmps136;go_wp2;go_ret;exact⟨rfl,rfl⟩
 have hw:wid n=false:=by simp[wid,h1,h2,h4,h8]
 have H:=Aa hw;clear hw;have e1:(n==1)=false:=by simpa using h1
 have e2:(n==2)=false:=by simpa using h2
 have e4:(n==4)=false:=by simpa using h4
 have e8:(n==8)=false:=by simpa using h8
 clear h1 h2 h4 h8;go_enter Tryz.func136,Tryz.ntmps136;go_wp2;go_ret;exact⟨Ee H.out.symm,rfl⟩
theorem Yg(v n:Nat)(w:World)(hv:v < 18446744073709551616)(hn:wid n=true):
 Calls Tryz.prog 81 #[.int .u64 v,.int .i64 n] w (Fe (leB n v) w):=by
 have hn':=(Py _).1 hn;have hn1:1≤n:=by omega
 have hn8:n≤8:=by omega
 clear hn';obtain⟨i0,hi,hz0,hz1,hz2⟩:=info_parts Tryz.infoU8;have HI:=Aa hi;have H0:=Aa hz0;have H1:=Aa hz1;have H2:=Aa hz2;clear hi hz0 hz1 hz2;go_enter Tryz.func81,Tryz.ntmps81;go_wp2_with (go_at_call 136;refine(Jnx _ _).mono ?_;rintro e w' ⟨rfl,rfl⟩)
 go_loopw [0,5,7] (fun x out i wr=>∃k:Nat,k≤n∧i= .int .i64 k∧x= .int .u64 ((v / 256 ^ k:Nat):Int)∧wr.ownsRow w.heap.size 5 1 out k ((leB k v).map u8v)∧Below w.heap.size w wr) (fun _ _ i _=>n - (intOf i).toNat)
 case atStart=>exact⟨0,Ak _,rfl,by simp,Aq _ _ _ _,Ag _ _⟩
 case round=>
  obtain⟨k,hk,rfl,rfl,hown,hb⟩:=hrel;have hq:v / 256 ^ k≤v:=Nat.div_le_self _ _;have hsn:=Aa (Jep k v);have hdd:v / 256 ^ (k+1)=v / 256 ^ k / 256:=by rw[Nat.pow_succ,Nat.div_div_eq_div_mul]
  have HD:=Aa hdd;clear hdd;generalize v / 256 ^ k=q at*;by_cases hlt:k < n
  ·go_wp2_with (at_builtin;refine wpList_append_own _ rfl _ _ 31 rfl w.heap.size 5 i0 (.int .u8 0) 1 1 Tryz.underlying31 HI.out H0.out H1.out H2.out rfl (by decide) _ _ _ rfl (hown.alloc _) ⟨wr.heap.size,0,none⟩ 1 1 [u8v (UInt8.ofNat q)] rfl rfl ?c1 ?c2 ?c3 ?c4 ?c5 ?_)
   case c1=>
    intro j u hj
    match j,hj with
    |0,hj=>simp at hj;subst hj;simp[Addr.add,Jom]
   case c2=>intro u hu;simp at hu;subst hu;rfl
   case c3=>unfold maxLen;omega
   case c4=>omega
   case c5=>have:=hb.size;simp;omega
   ·intro v' w1 hown' hgrow _;have hb1:Below w.heap.size w w1:=(hb.alloc hb.size _).grown hgrow (by have:=hb.size;simp;omega) (fun g hg=>(hown.lt g hg).1);clear hgrow hown hb;go_wp2;go_roundw
    case rel=>
     refine⟨k+1,hlt,by go_num,?_,?_,hb1⟩
     ·rw[HD.out];simp
     ·rw[hsn.out,List.map_append];exact hown'
    case measure=>simp[intOf];omega
  ·have hkn:k=n:=by omega
   have HK:=Aa hkn;clear hkn;go_wp2;go_ret;refine⟨_,rfl,?_,hb⟩;rw[Dp,←HK.out];exact hown
theorem Jhx(v n:Nat)(w:World)(hv:v < 18446744073709551616)(hn:wid n=true):Calls Tryz.prog 81 #[.int .u64 v,.int .i64 n] w (Md n (leB n v) w):=
 (Yg v n w hv hn).mono fun e w' h=>by have:=h.toH;rwa [Dp]at this
def Bu(n:Int):Bool:=decide (0≤n)&&decide (n≤2147483647)
theorem Bv(n:Int):Bu n=true ↔ 0≤n∧n≤2147483647:=by simp[Bu]
theorem Kh(n:Int)(w:World):Calls Tryz.prog 86 #[.int .i64 n] w fun e w'=>e= .returned (.bool (Bu n))∧w=w':=by
 by_cases h0:0≤n
 ·by_cases h1:n≤2147483647
  ·have H:Hid (Bu n=true):=Aa ((Bv n).2 ⟨h0,h1⟩);go_enter Tryz.func86,Tryz.ntmps86;go_wp2;go_ret;exact⟨Ee H.out.symm,rfl⟩
  ·have H:Hid (Bu n=false):=Aa (by simp[Bu,h1]);go_enter Tryz.func86,Tryz.ntmps86;go_wp2;go_ret;exact⟨Ee H.out.symm,rfl⟩
 ·have H:Hid (Bu n=false):=Aa (by simp[Bu,h0]);go_enter Tryz.func86,Tryz.ntmps86;go_wp2;go_ret;exact⟨Ee H.out.symm,rfl⟩
def u64n(v:Int):Nat:=(v % 18446744073709551616).toNat
theorem Fl(v:Nat)(h:v < 18446744073709551616):u64n v=v:=by unfold u64n;omega
theorem Vg(v:Int):u64n v < 18446744073709551616:=by unfold u64n;omega
def Fq:List Int→List UInt8
 |v::n::r=>leB n.toNat (u64n v)++Fq r
 |_=> []
theorem Ua:∀a b:List Int,a.length % 2=0→Fq (a++b)=Fq a++Fq b
 | [],_,_=>rfl
 | [x],_,h=>by simp at h
 |v::n::r,b,h=>by
  have ih:=Ua r b (by simp at h;omega);simp[Fq,ih]
theorem Tw{xs:List Int}{k:Nat}{v n:Int}(hv:xs[2*k]?=some v)(hn:xs[2*k+1]?=some n):Fq (xs.take (2*(k+1)))=Fq (xs.take (2*k))++leB n.toNat (u64n v):=by
 have hl:2*k < xs.length:=(Ab.1 hv).1;have e:xs.take (2*(k+1))=xs.take (2*k)++ [v,n]:=by
  rw[show 2*(k+1)=2*k+1+1 by omega,List.take_add_one,List.take_add_one,hv,hn];simp
 rw[e,Ua _ _ (by simp;omega)];simp[Fq]
theorem Fo{w:World}{base b:Nat}{e:TypeId}{s n:Nat}{v:Value}{xs:List Value}(h:w.ownsRow base e s v n xs)(hb:b < base):some b≠v.ownBlock:=fun e=>by
 have:=(h.lt _ e.symm).1;omega
theorem Jm(v:Int):IntKind.u64.wrap v=(u64n v:Int):=by
 have h:IntKind.u64.wrap v=v % 18446744073709551616:=by simp[IntKind.wrap,IntKind.signed,IntKind.bits]
 rw[h];unfold u64n;omega
theorem Sq(p:Option Addr)(len cap m:Nat)(xs:List Int)(w:World)(h:Uu w p xs)(hlen:xs.length=len)(hm:len=2*m)(hbig:len≤1000)
 (hw:∀(i:Nat)(n:Int),xs[2*i+1]?=some n→wid n=true)(hv:∀(i:Nat)(v:Int),xs[i]?=some v→ -9223372036854775808≤v∧v≤9223372036854775807):
 Calls Tryz.prog 85 #[.slice p len cap] w (Fe (Fq xs) w):=by
 obtain⟨i0,hi,hz0,hz1,hz2⟩:=info_parts Tryz.infoU8;have HI:=Aa hi;have H0:=Aa hz0;have H1:=Aa hz1;have H2:=Aa hz2;have HX:=Aa h;have HL:=Aa hlen;have HW:=Aa hw;have HV:=Aa hv;have HM:=Aa hm;have hm5:m≤500:=by omega
 clear h hlen hw hv hm hi hz0 hz1 hz2;go_enter Tryz.func85,Tryz.ntmps85;go_wp2_with fail
 go_loopw [3,4] (fun out ii wr=>∃k a n:Nat,k≤m∧n≤8*k∧a=2*k∧ii= .int .i64 (a:Int)∧wr.ownsRow w.heap.size 5 1 out n ((Fq (xs.take (2*k))).map u8v)∧Below w.heap.size w wr) (fun _ ii _=>len - (intOf ii).toNat)
 case atStart=>exact⟨0,0,0,Ak _,Af _,rfl,rfl,Aq _ _ _ _,Ag _ _⟩
 case round=>
  obtain⟨k,a,n,hk,hn,ha,rfl,hown,hb⟩:=hrel;have HA:=Aa ha;by_cases hlt:k < m
  ·have hl1:a+1 < xs.length:=by rw[HL.out,HM.out];omega
   obtain⟨b,off,v,rfl,hv1,hc1⟩:=HX.out.at_ (i:=a) (by omega);obtain⟨b',off',wd,hp',hw1,hc2⟩:=HX.out.at_ (i:=a+1) hl1;simp only[Option.some.injEq,Addr.mk.injEq,and_true]at hp';obtain⟨rfl,rfl⟩:=hp';have d1:=Ax hb hc1;have d2:=Ax hb hc2;have ht2:=Tw (k:=k) (ha▸hv1) (ha▸hw1);have hwid:=HW.out k wd (ha▸hw1);have hwd:=(Py wd).1 hwid;obtain⟨wn,rfl⟩:=Au (show 0≤wd by omega);rw[Int.toNat_natCast]at ht2;have HT:=Aa ht2;clear ht2;have HP:=Aa fun W=>Jhx (u64n v) wn W (Vg v) hwid;have HC:=Aa (Jm v);have hw1:1≤wn:=by omega
   have hw8:wn≤8:=by omega
   have hI:(a:Int)+1 < (len:Int):=by have:=HM.out;omega
   have hI0:(0:Int)≤(a:Int):=by omega
   have k5:IntKind.i64.wrap ((a:Int)+1)=(a:Int)+1:=Al _ (by have:=HM.out;omega);have k6:(0:Int)≤(a:Int)+1:=by omega
   have k7:((a:Int)+1).toNat=a+1:=by omega
   have hla:a < len:=by have:=HM.out;omega
   have hla1:a+1 < len:=by have:=HM.out;omega
   clear ha hwid hwd hl1;have hbl:b < w.heap.size:=Ao w _ hc1;have q2:n+wn≤maxLen:=by unfold maxLen;omega
   have q3:(n+wn)*1≤140737488355328:=by omega
   clear hc1 hc2 hv1;go_wp2_with fail
   go_region_held3 (fun w'=>w'.cell? ⟨b,off+a,none⟩=some (.int .i64 v)∧w'.cell? ⟨b,off+(a+1),none⟩=some (.int .i64 (wn:Int))) (first|go_keep|exact⟨e1,e2⟩|exact⟨f1,f2⟩|fail)
    ((first
      |(go_at_call 81
        rw[HC.out];refine(HP.out _).mono ?_;rintro e w2 ⟨p2,c2,rfl,hl2,hnc2,hcm2,hH2,hbb2⟩;obtain⟨b2,o2,rfl,_⟩:=hH2.plain (by omega);have hb2:Below w.heap.size w w2:=hb.drew.trans (hbb2.mono (by exact hb.size));have e1:w2.cell? ⟨b,off+a,none⟩=some (.int .i64 v):=Ax hbb2 d1;have e2:w2.cell? ⟨b,off+(a+1),none⟩=some (.int .i64 (wn:Int)):=Ax hbb2 d2;have hown2:=Ed hown.drew hbb2;have HH2:=Aa hH2;have HL2:=Aa hl2
        clear hH2 hl2 hbb2)
      |(refine step_append_lies _ (by rfl) _ _ _ (by rfl) w.heap.size 5 i0 (.int .u8 0) 1 1 Tryz.underlying31 HI.out H0.out H1.out H2.out rfl (by decide) _ n _ (by rfl) hown2 ⟨b2,o2,none⟩ wn c2 ((leB wn (u64n v)).map u8v) (by rfl) (by rw[List.length_map,HL2.out,Nat.mul_one]) HH2.out.cells (Kv _) hw1 q2 q3 hb2.size _ rfl ?_
        intro g3 cap3 w3 hown3 hgrow3 _ _;have f1:=hgrow3.cell e1 (Fo hown2 hbl)
        have f2:=hgrow3.cell e2 (Fo hown2 hbl))
      |fail))
   have hb3:Below w.heap.size w w3:=hb2.grown hgrow3 hb2.size (fun g hg=>(hown2.lt g hg).1);rw[←List.map_append,←HT.out]at hown3;clear hgrow3 hown2 hown hb hb2;go_wp2_with fail
   go_roundw
   case rel=>exact⟨k+1,a+2,n+wn,hlt,by omega,by have:=HA.out;omega,by go_num,hown3,hb3⟩
   case measure=>simp[intOf];omega
  ·obtain rfl:k=m:=by omega
   have hI:¬(a:Int)+1 < (len:Int):=by have:=HM.out;have:=HA.out;omega
   have ht:xs.take (2*k)=xs:=List.take_of_length_le (by rw[HL.out,HM.out];exact Af _);rw[ht]at hown;have hn1:(Fq xs).length=n:=by have:=hown.1;simpa using this
   have HN:=Aa hn1;have ha2:a≤1000:=by have:=HM.out;omega
   clear ht hn1 ha;go_wp2_with fail
   go_ret;refine⟨_,rfl,?_,hb⟩;rw[HN.out];exact hown
def Ta:List UInt8:= [127,69,76,70,2,1,1,0,0,0,0,0,0,0,0,0]
def Kl(a m n:Int):List Int:= [1,2,62,2,1,4,0,8,0,8,a,8,0,4,64,2,0,2,0,2,64,2,m,2,n,2]
def Nt(a m n:Nat):List UInt8:=Ta++Fq (Kl a m n)
def Jp(a m n:Int):Prop:=0≤a∧a≤2147483647∧1≤m∧m≤65535∧1≤n∧n < m
theorem Mf(a m n:Nat):(Nt a m n).length=64:=rfl
instance (a m n:Int):Decidable (Jp a m n):=by unfold Jp;infer_instance
theorem Ql(w:World)(t:TypeId)(xs:List Int)(cs:Array Value)(h:cs=(xs.map (Value.int .i64)).toArray)(H:Nat)(hH:w.heap.size=H):Uu (w.alloc (.cells cs t)) (some ⟨H,0,none⟩) xs:=fun i x hx=>by
 subst hH;refine⟨_,rfl,?_⟩;have ha:(⟨w.heap.size,0,none⟩:Addr).add i=⟨w.heap.size,i,none⟩:=by unfold Addr.add;split<;>simp_all
 rw[ha,Am _ w.heap.size i cs t (0,0) (Ah w _),h];simp[hx]
theorem Jex(w:World)(l:List UInt8)(n:Nat)(cs:Array Value)(h:cs=(l.map u8v).toArray)(hn:l.length=n)(hm:n≤maxLen):
 (w.alloc (.cells cs 5)).ownsRow w.heap.size 5 1 (.slice (some ⟨w.heap.size,0,none⟩) n n) n (l.map u8v):=by
 subst hn;have hs:cs.size=l.length*1:=by rw[h];simp
 have:=World.ownsRow_lit (base:=w.heap.size) (e:=5) (size:=1) w cs l.length (Af _) hm hs;rw[h]at this⊢;exact this
theorem Jgs(a m n:Int):∀(i:Nat)(x:Int),(Kl a m n)[2*i+1]?=some x→wid x=true:=fun i x hx=>by
 have hi:i < 13:=by have:=(Ab.1 hx).1;simp[Kl]at this;omega
 match i,hi,hx with
 |0,_,hx|1,_,hx|2,_,hx|3,_,hx|4,_,hx|5,_,hx|6,_,hx|7,_,hx|8,_,hx|9,_,hx|10,_,hx|11,_,hx|12,_,hx=>simp[Kl]at hx;subst hx;rfl
theorem Jlq{a m n:Int}(h1:0≤a∧a≤2147483647)(h2:0≤m∧m≤2147483647)(h3:0≤n∧n≤2147483647):∀(i:Nat)(x:Int),(Kl a m n)[i]?=some x→ -9223372036854775808≤x∧x≤9223372036854775807:=fun i x hx=>by
 have:=Ad hx;simp only[Kl,List.mem_cons,List.not_mem_nil,or_false]at this;omega
theorem begin_no(a m n:Int)(w:World)(h:¬Jp a m n):
 Calls Tryz.prog 39 #[.int .i64 a,.int .i64 m,.int .i64 n] w fun e w'=>e= .returned (.slice none 0 0)∧w=w':=by
 have HF:Hid (∀W,Calls Tryz.prog 86 #[.int .i64 a] W fun e w'=>e= .returned (.bool (Bu a))∧W=w'):=Aa (Kh a);by_cases h0:0≤a∧a≤2147483647
 ·rw[(Bv a).2 h0]at HF;by_cases h1:m < 1
  ·clear h h0;go_enter Tryz.func39,Tryz.ntmps39;go_wp2_with (go_at_call 86;refine(HF.out _).mono ?_;rintro e w' ⟨rfl,rfl⟩)
   go_ret;exact⟨rfl,rfl⟩
  by_cases h2:65535 < m
  ·clear h h0;go_enter Tryz.func39,Tryz.ntmps39;go_wp2_with (go_at_call 86;refine(HF.out _).mono ?_;rintro e w' ⟨rfl,rfl⟩)
   go_ret;exact⟨rfl,rfl⟩
  by_cases h3:n < 1
  ·clear h h0;go_enter Tryz.func39,Tryz.ntmps39;go_wp2_with (go_at_call 86;refine(HF.out _).mono ?_;rintro e w' ⟨rfl,rfl⟩)
   go_ret;exact⟨rfl,rfl⟩
  have h4:m≤n:=by unfold Jp at h;omega
  clear h h0;go_enter Tryz.func39,Tryz.ntmps39;go_wp2_with (go_at_call 86;refine(HF.out _).mono ?_;rintro e w' ⟨rfl,rfl⟩)
  go_ret;exact⟨rfl,rfl⟩
 ·have hf:Bu a=false:=by
   cases hq:Bu a with
   |false=>rfl
   |true=>exact absurd ((Bv a).1 hq) h0
  rw[hf]at HF;clear h h0 hf;go_enter Tryz.func39,Tryz.ntmps39;go_wp2_with (go_at_call 86;refine(HF.out _).mono ?_;rintro e w' ⟨rfl,rfl⟩)
  go_ret;exact⟨rfl,rfl⟩
theorem Jlg(a m n:Nat)(w:World)(h:Jp a m n):
 Calls Tryz.prog 39 #[.int .i64 a,.int .i64 m,.int .i64 n] w (Fe (Nt a m n) w):=by
 obtain⟨h1,h2,h3,h4,h5,h6⟩:=h;have HF:Hid (∀W,Calls Tryz.prog 86 #[.int .i64 a] W fun e w'=>e= .returned (.bool true)∧W=w'):=Aa fun W=>by
  have:=Kh a W
  rwa [(Bv a).2 ⟨h1,h2⟩]at this
 obtain⟨i0,hi,hz0,hz1,hz2⟩:=info_parts Tryz.infoU8;have HI:=Aa hi;have H0:=Aa hz0;have H1:=Aa hz1;have H2:=Aa hz2;have HN:=Aa fun(W:World)(p:Option Addr)(hp:Uu W p (Kl a m n))=>Sq p 26 26 13 (Kl a m n) W hp rfl rfl (by omega) (Jgs a m n) (fun i v hv=>Jlq (by omega) (by omega) (by omega) i v hv);clear hi hz0 hz1 hz2;go_enter Tryz.func39,Tryz.ntmps39;go_wp2_with (go_at_call 86;refine(HF.out _).mono ?_;rintro e w' ⟨rfl,rfl⟩)
 refine(HN.out _ _ (Ql _ _ (Kl a m n) _ rfl _ (by simp))).mono ?_;rintro e w2 ⟨v2,rfl,ho2,hbb2⟩;obtain⟨p2,c2,rfl,hn2,hc2,hl2,hH2⟩:=Has.of_owns ho2;have hb1:Below w.heap.size w (w.alloc (.cells #[.int .u8 127,.int .u8 69,.int .u8 76,.int .u8 70,.int .u8 2,.int .u8 1,.int .u8 1,.int .u8 0,.int .u8 0,.int .u8 0,.int .u8 0,.int .u8 0,.int .u8 0,.int .u8 0,.int .u8 0,.int .u8 0] 5)):=(Ag _ w).alloc (Af _) _;have hb2:Below w.heap.size w w2:=(hb1.alloc hb1.size _).trans (hbb2.mono (by simp;omega));have hown1:=Jex w Ta 16 #[.int .u8 127,.int .u8 69,.int .u8 76,.int .u8 70,.int .u8 2,.int .u8 1,.int .u8 1,.int .u8 0,.int .u8 0,.int .u8 0,.int .u8 0,.int .u8 0,.int .u8 0,.int .u8 0,.int .u8 0,.int .u8 0] rfl rfl (by unfold maxLen;omega);have hown2:=Ed (hown1.alloc (.cells (((Kl a m n).map (Value.int .i64)).toArray) 3)) hbb2;obtain⟨b2,o2,rfl,_⟩:=hH2.plain (by rw[hl2];exact(show 0 < 48 by omega));have HH2:=Aa hH2;clear ho2 hbb2 hown1 hb1 hl2 hH2;go_wp2_with (at_builtin;refine wpList_append_own _ rfl _ _ 31 rfl w.heap.size 5 i0 (.int .u8 0) 1 1 Tryz.underlying31 HI.out H0.out H1.out H2.out rfl (by decide) _ 16 _ rfl hown2 ⟨b2,o2,none⟩ 48 c2 ((Fq (Kl a m n)).map u8v) rfl rfl HH2.out.cells (Kv _) (by unfold maxLen;omega) (by omega) hb2.size ?_)
 intro v3 w3 hown3 hgrow _;have hb3:Below w.heap.size w w3:=hb2.grown hgrow hb2.size (fun g hg=>(hown2.lt g hg).1);rw[←List.map_append]at hown3;clear hgrow hown2 hb2;go_wp2_with fail
 go_ret;exact⟨_,rfl,hown3,hb3⟩
end Go.Proofs.YteopgmieindojaaGreat
