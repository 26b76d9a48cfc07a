/- Parts of a proof. -/
import Derived.Test.YteopgmieindojaaGreatGX12
import Derived.Test.YteopgmieindojaaGreatGX09
import Derived.Test.YteopgmieindojaaGreatGX11
import Derived.Test.YteopgmieindojaaGreatGX10
set_option maxRecDepth 1000000
set_option maxHeartbeats 8000000
namespace Go.Proofs.YteopgmieindojaaGreat
open Go.RowKit
def Fk(n:Int):Value:=if n=0 then .nilIface else .iface 36 (.int .i64 n)
theorem Jgg{fn:Func}{p u:Tmp}(h:fn.results= #[.cell p 67,.tmp u])(tmps:Array Value)(w:World)(g:Nat)(v0 v1 v2 b:Value)(hp:tmps.getD p undef= .pointer (some ⟨g,0,none⟩))(hu:tmps.getD u undef=b)
 (hg:w.heap[g]?=some (.cells #[v0,v1,v2] 67 (0,0))):(results fn tmps).run Tryz.prog w= .ok (.tuple #[.agg #[v0,v1,v2],b]) w:=by
 obtain⟨⟨r0,r1,r2⟩,_⟩:=Bj _ _ _ _ _ _ hg;rw[results_cell_tmp h,hp,hu];go_simp
def Mq(r:Cq × Int)(w:World)(e:Ending)(w':World):Prop:=e= .returned (.tuple #[.agg (Jy r.1),Fk r.2])∧Below w.heap.size w w'
theorem Ma{tmps:Array Value}{W w:World}{B:Nat}{r:Cq × Int}{x:Cq}{n:Int}{v:Value}(h8:tmps.getD 8 undef= .pointer (some ⟨B+1,0,none⟩))(h9:tmps.getD 9 undef=v)(hB:w.heap.size=B)
 (hR:W.heap[B+1]?=some (.cells (Jy x) 67 (0,0)))(hb:Below B w W)(he:r=(x,n))(hv:v=Fk n):bodyPost Tryz.prog Tryz.f25 (Mq r w) Exit.ret ⟨tmps, []⟩ W:=by
 subst hB;subst he;subst hv;exact bodyPost_ret (Jgg rfl _ _ _ _ _ _ _ h8 h9 hR) rfl ⟨rfl,hb⟩
theorem Jj0{D:List (List Bool)}{o:Nat}{y:Ct}(h:Cw y (Cz D o)=true):Hj D o y=(placeB y (o:Int),0):=by
 unfold Cw at h;cases h0:(y.bind==0 || y.sec==0)with
 |true=>rw[h0]at h;cases h
 |false=>
  rw[h0]at h;rw[Bool.or_eq_false_iff]at h0;have hs0:¬y.sec=0:=by simpa using h0.2
  unfold Hj placeB;by_cases hs:y.sec < 1
  ·rw[Aj hs,if_pos (by omega)];rfl
  ·rw[Ai hs,if_neg (by omega)];have h1:(y.sec== -1)=false:=by simp;omega
   rw[cond_false,h1,Bool.false_or]at h;have h2:(Cz D o)[(y.sec - 1).toNat]?.getD false=false:=by simpa using h
   rw[h2];rfl
theorem Jj3{D:List (List Bool)}{o:Nat}{y:Ct}:Hj D o y=bif Nu D o y.sec then(⟨0,0,0⟩,4)else(placeB y (o:Int),0):=by
 unfold Hj placeB Nu;by_cases hs:y.sec < 1
 ·rw[Aj hs,if_pos (by omega),Ai (by omega)];rfl
 ·rw[Ai hs,if_neg (by omega),Aj (by omega),Bool.true_and];cases (Cz D o)[(y.sec - 1).toNat]?.getD false<;>rfl
theorem Jjh{l:List Az}{d:Bb}{ob:Az}{y:Ct}(h1:l[d.obj]?=some ob)(h2:ob.syms[d.sym]?=some y):Ju l (d.obj:Int) (d.sym:Int)=true:=by
 have:=(Ab.1 h1).1;unfold Ju symAt2;rw[if_neg (by omega),Int.toNat_natCast,Int.toNat_natCast,h1];simp only;rw[h2];rfl
theorem Jik(p pd pf:Option Addr)(c cd nf cf:Nat)(o s:Int)(l:List Az)(D:List (List Bool))(defs:List Bb)(w:World)(h:Bg 5 Cg w p l)(hok:∀o∈l,OkD o)(hD:Er w pd l D)
 (hf:Bg 3 Dg w pf defs)(hfn:defs.length=nf)(hfb:nf≤100000)(hfs:Dz defs)(htab:∀name,Hc defs name=findIn (Bc Az.syms l l.length) D name)(hob:Bn o)(hsb:Bn s):
 Calls Tryz.prog 25 #[.slice p l.length c,.agg #[.slice pd D.length cd,.slice pf nf cf],.int .i64 o,.int .i64 s] w (Mq (Ck l D o s) w):=by
 obtain⟨wa,hwa⟩:∃wa,wa=w.alloc (.cells #[.slice pd D.length cd,.slice pf nf cf] 49):=⟨_,rfl⟩
 obtain⟨wb,hwb⟩:∃wb,wb=wa.alloc (.cells #[.int .i64 0,.int .i64 0,.int .i64 0] 67):=⟨_,rfl⟩
 have ha:Below w.heap.size w wa:=by rw[hwa];exact(Ag _ w).alloc (Af _) _
 have hb:Below wa.heap.size wa wb:=by rw[hwb];exact(Ag _ wa).alloc (Af _) _
 have sa:wa.heap.size=w.heap.size+1:=by rw[hwa];simp
 have sb:wb.heap.size=w.heap.size+2:=by rw[hwb];simp[sa]
 have hA0:wa.heap[w.heap.size]?=some (.cells #[.slice pd D.length cd,.slice pf nf cf] 49 (0,0)):=by rw[hwa];exact Ah w _
 have hAb:=(hb.block _ (by omega)).trans hA0;have hRb:wb.heap[wa.heap.size]?=some (.cells #[.int .i64 0,.int .i64 0,.int .i64 0] 67 (0,0)):=by rw[hwb];exact Ah wa _
 rw[sa]at hRb;have hwb0:Below w.heap.size w wb:=ha.trans (hb.mono ha.size);obtain⟨r,hr⟩:∃r,r=Ck l D o s:=⟨_,rfl⟩
 rw[←hr];have hE0:Ju l o s=false→r=(⟨0,0,0⟩,1):=fun hh=>by
  rw[hr];unfold Ju at hh;unfold Ck;by_cases hc:o < 0∨(l.length:Int)≤o∨s < 0
  ·rw[if_pos hc]
  ·rw[if_neg hc]at hh⊢;cases hq:symAt2 l o.toNat s.toNat with
   |none=>rfl
   |some x=>rw[hq]at hh;cases hh
 have hE1:Ju l o s=true→∃(on sn:Nat)(ob:Az)(x:Ct),o=(on:Int)∧s=(sn:Int)∧l[on]?=some ob∧ob.syms[sn]?=some x∧r=Hw l D on x:=fun hh=>by
  unfold Ju at hh;by_cases hc:o < 0∨(l.length:Int)≤o∨s < 0
  ·rw[if_pos hc]at hh;cases hh
  ·rw[if_neg hc]at hh;obtain⟨on,hon⟩:=Au (show 0≤o by omega);obtain⟨sn,hsn⟩:=Au (show 0≤s by omega);subst hon hsn;cases hq:symAt2 l on sn with
   |none=>rw[Int.toNat_natCast,Int.toNat_natCast,hq]at hh;cases hh
   |some x=>
    have hq':=hq;unfold symAt2 at hq;cases ho:l[on]? with
    |none=>rw[ho]at hq;cases hq
    |some ob=>
     rw[ho]at hq;refine⟨on,sn,ob,x,rfl,rfl,ho,hq,?_⟩;rw[hr];unfold Ck;rw[if_neg hc,Int.toNat_natCast,Int.toNat_natCast,hq']
 have HE0:=Aa hE0;have HE1:=Aa hE1;have HWA:=Aa hwa;have HWB:=Aa hwb;have HAB:=Aa hAb;have HRB:=Aa hRb;have HWB0:=Aa hwb0;have HSB:=Aa sb;have HH:=Aa h;have HOK:=Aa hok;have HDK:=Aa hD;have HTAB:=Aa htab;have HIS:=Aa fun W (hW:Below w.heap.size w W)(o s:Int)=>Jk7 p c o s l W (h.below Cg.keeps hW);have HFI:=Aa fun W (hW:Below w.heap.size w W)(name:ByteArray)=>Jba pf nf cf (.slice pd D.length cd) defs name W (hf.below Dg.keeps hW) hfn hfb hfs;have HPL:=Aa fun W (x:Ct)(o:Int)=>Jid x o W;have HDR:=Aa fun W (hW:Below w.heap.size w W)(o:Nat)(sec:Int)(h1:(Cz D o).length≤1000)(h2:o < D.length) h3=>Jb1 pd cd o sec (.slice pf nf cf) D W (hD.below hW).has h1 h2 h3;have HDL:=Aa hD.len;generalize hdn:D.length=dn at*;generalize hln:l.length=ln at*;have HLN:=Aa hln;clear h hok hD hwa hwb ha hb sa sb hA0 hAb hRb hwb0 hr hdn hln hob hsb hf hfn hfs htab hE0 hE1;go_enter Tryz.func25,Tryz.ntmps25;go_upto_region 1 with fail
 rw[←HWA.out,←HWB.out];clear HWA HWB;generalize hgb:w.heap.size=gb at*;have HGB:=Aa hgb;clear hgb;have his:=HIS.out wb (by first|exact HWB0.out|(rw[HGB.out];exact HWB0.out)) o s;obtain⟨q,hq⟩:∃q,q=Ju l o s:=⟨_,rfl⟩
 rw[←hq]at his HE0 HE1;have HISX:=Aa his;clear his hq;cases q with
 |false=>
  have hE:Hid (r=(⟨0,0,0⟩,1)):=Aa (HE0.out rfl);go_upto_region 2 with(first|(go_at_call 63;refine HISX.out.mono ?_;rintro e w2 ⟨rfl,hb2⟩)|fail)
  have hR2:=(hb2.block (gb+1) (by have:=HSB.out;omega)).trans HRB.out;have hw2:=HWB0.out.trans (hb2.mono (by have:=HSB.out;omega));have hsz2:gb≤w2.heap.size:=by have:=hb2.size;have:=HSB.out;omega
  obtain⟨⟨r0,r1,r2⟩,r3,r4,r5⟩:=Bj _ _ _ _ _ _ hR2;have hst:=Cy (.int .i64 0) (.int .i64 0) (.int .i64 0) (by omega:gb≤gb+1) hR2;have HST:=Aa hst;have HW2:=Aa hw2;clear hst hR2 hw2 hb2;go_wp2_with fail
  exact Ma (x:=⟨0,0,0⟩) (n:=1) (by rfl) (by rfl) HGB.out HST.out.1 (HW2.out.trans (HST.out.2.below hsz2)) hE.out rfl
 |true=>
  obtain⟨on,sn,ob,x,ho,hs,hoo,hx,hre⟩:=HE1.out rfl;subst ho hs;have HOO:=Aa hoo;have HX:=Aa hx;have HRE:=Aa hre;clear hoo hx hre HE0 HE1;have hob:=HOK.out ob (Ad HOO.out);have hsec:=hob.sec x (Ad HX.out);have hol:on < ln:=by rw[←HLN.out];exact(Ab.1 HOO.out).1
  have hsl:sn < ob.syms.length:=(Ab.1 HX.out).1;have hrow:=HDK.out.row on ob HOO.out;have hq1:=hob.few.1;rw[←hrow]at hsec hq1;have hyb:=hob.few.2.1;generalize hyn:ob.syms.length=yn at*;have HYN:=Aa hyn;have HSEC:=Aa hsec;have HQ1:=Aa hq1;clear hob hrow hyn hsec hq1;go_upto_region 2 with(first|(go_at_call 63;refine HISX.out.mono ?_;rintro e w2 ⟨rfl,hb2⟩)|fail)
  have hR2:=(hb2.block (gb+1) (by have:=HSB.out;omega)).trans HRB.out;have hA2:=(hb2.block gb (by have:=HSB.out;omega)).trans HAB.out;have hw2:=HWB0.out.trans (hb2.mono (by have:=HSB.out;omega));have hsz2:gb+2≤w2.heap.size:=by have:=hb2.size;have:=HSB.out;omega
  obtain⟨b,off,p0,p1,p2,p4,c0,c1,c2,c4,hpe,e0,e1,e2,_,_,_,hsy,_⟩:=Du (HH.out.below Cg.keeps (show Below w.heap.size w w2 by rw[HGB.out];exact hw2)) HOO.out;subst hpe;obtain⟨b1,off1,x',hpe1,hx',⟨f0,_⟩,⟨f1,_⟩,⟨f2,_⟩,⟨f3,_⟩,⟨f4,_⟩,⟨f5,_⟩⟩:=hsy.at_ (i:=sn) (by rw[HYN.out];exact hsl);subst hpe1;obtain rfl:x'=x:=by rw[HX.out]at hx';cases hx';rfl
  rw[HYN.out]at e1;have hJ:(on:Int) < (ln:Int):=by omega
  have hJ0:(0:Int)≤(on:Int):=by omega
  have hJ':¬(ln:Int)≤(on:Int):=by omega
  have hJ2:¬(on:Int) < 0:=by omega
  have hK:(sn:Int) < (yn:Int):=by omega
  have hK0:(0:Int)≤(sn:Int):=by omega
  clear hb2 hx' hsy e0 e2;go_upto_region 4 with fail
  have hb3:Below w2.heap.size w2 (w2.alloc (.cells #[.string x'.name,.int .i64 x'.bind,.int .i64 x'.type,.int .i64 x'.sec,.int .i64 x'.value,.int .i64 x'.size] 98)):=(Ag _ w2).alloc (Af _) _;obtain⟨x0,x1,x2,x3,x4,x5⟩:=Ky _ _ _ _ _ _ _ _ _ (Ah w2 (.cells #[.string x'.name,.int .i64 x'.bind,.int .i64 x'.type,.int .i64 x'.sec,.int .i64 x'.value,.int .i64 x'.size] 98));have hR3:=(hb3.block (gb+1) (by omega)).trans hR2;have hA3:=(hb3.block gb (by omega)).trans hA2;have hw3:=hw2.trans (hb3.mono (by omega));have hsz3:gb+2≤(w2.alloc (.cells #[.string x'.name,.int .i64 x'.bind,.int .i64 x'.type,.int .i64 x'.sec,.int .i64 x'.value,.int .i64 x'.size] 98)).heap.size:=Aw hsz2 hb3.size;generalize w2.alloc (.cells #[.string x'.name,.int .i64 x'.bind,.int .i64 x'.type,.int .i64 x'.sec,.int .i64 x'.value,.int .i64 x'.size] 98)=w3 at*;generalize w2.heap.size=g2 at*;have HR3:=Aa hR3;have HW3:=Aa hw3;obtain⟨⟨a0,a1⟩,_⟩:=Bz _ _ _ _ _ hA3;clear hb3 hR3 hA3 hw3 hR2 hA2 hw2 e1 f0 f1 f2 f3 f4 f5;cases hbd:(x'.bind==0)with
  |true=>
   have hr3:r=bif Nu D on x'.sec then(⟨0,0,0⟩,4)else(placeB x' (on:Int),0):=by rw[HRE.out];unfold Hw;rw[hbd,cond_true,Jj3]
   have HDX:=Aa (HDR.out w3 (by first|exact HW3.out|(rw[HGB.out];exact HW3.out)) on x'.sec HQ1.out (by have:=HDL.out;omega) HSEC.out);obtain⟨dq,hdq⟩:∃dq,dq=Nu D on x'.sec:=⟨_,rfl⟩
   rw[←hdq]at hr3 HDX;have HR4:=Aa hr3;clear hr3 hdq;go_wp2_with fail
   refine HDX.out.mono ?_;rintro e w4 ⟨rfl,hb4⟩;have hR4:=(hb4.block (gb+1) (by omega)).trans HR3.out;have hw4:=HW3.out.trans (hb4.mono (by omega));have hsz4:gb+2≤w4.heap.size:=Aw hsz3 hb4.size;cases dq with
   |true=>
    have hE:Hid (r=(⟨0,0,0⟩,4)):=Aa HR4.out;obtain⟨⟨r0,r1,r2⟩,r3,r4,r5⟩:=Bj _ _ _ _ _ _ hR4;have hst:=Cy (.int .i64 0) (.int .i64 0) (.int .i64 0) (by omega:gb≤gb+1) hR4;have HST:=Aa hst;have HW4:=Aa hw4;clear hst hR4 hw4 hb4 x0 x1 x2 x3 x4 x5 a0 a1;go_wp2_with fail
    exact Ma (x:=⟨0,0,0⟩) (n:=4) (by rfl) (by rfl) HGB.out HST.out.1 (HW4.out.trans (HST.out.2.below (by omega))) hE.out rfl
   |false=>
    have hE:Hid (r=(placeB x' (on:Int),0)):=Aa HR4.out;have y0:=Ax hb4 x0;have y1:=Ax hb4 x1;have y2:=Ax hb4 x2;have y3:=Ax hb4 x3;have y4:=Ax hb4 x4;have y5:=Ax hb4 x5;have HPX:=Aa (HPL.out w4 x' (on:Int));generalize placeB x' (on:Int)=pl at*;have HR5:=Aa hR4;have HW4:=Aa hw4;clear hR4 hw4 hb4 x0 x1 x2 x3 x4 x5 a0 a1;go_wp2_with fail
    refine HPX.out.mono ?_;rintro e w5 ⟨rfl,hb5⟩;have hR6:=(hb5.block (gb+1) (by omega)).trans HR5.out;have hw5:=HW4.out.trans (hb5.mono (by omega));have hsz5:gb+2≤w5.heap.size:=Aw hsz4 hb5.size;obtain⟨⟨r0,r1,r2⟩,r3,r4,r5⟩:=Bj _ _ _ _ _ _ hR6;have hst:=Cy (.int .i64 pl.obj) (.int .i64 pl.sec) (.int .i64 pl.at_) (by omega:gb≤gb+1) hR6;have HST:=Aa hst;have HW5:=Aa hw5;clear hst hR6 hw5 hb5 y0 y1 y2 y3 y4 y5;go_wp2_with fail
    exact Ma (x:=pl) (n:=0) (by rfl) (by rfl) HGB.out HST.out.1 (HW5.out.trans (HST.out.2.below (by omega))) hE.out rfl
  |false=>
   have hr3:r=match findIn (Bc Az.syms l l.length) D x'.name with
    |some d=>(match symAt2 l d.obj d.sym with|some y=>Hj D d.obj y|none=>(⟨0,0,0⟩,1))
    |none=>bif x'.bind==2 then(⟨0,0,0⟩,0)else(⟨0,0,0⟩,4):=by rw[HRE.out];unfold Hw;rw[hbd];rfl
   have HFX:=Aa (HFI.out w3 (by first|exact HW3.out|(rw[HGB.out];exact HW3.out)) x'.name);have hfe:Hc defs x'.name=findIn (Bc Az.syms l l.length) D x'.name:=by rw[HLN.out];exact HTAB.out x'.name
   rw[hfe]at HFX;cases hfi:findIn (Bc Az.syms l l.length) D x'.name with
   |none=>
    rw[hfi]at hr3 HFX;simp only[Option.getD_none,Option.isSome_none]at HFX;have HR3':=Aa hr3;clear hr3 hfi hfe;go_upto_region 9 with(first|(go_at_call 23;refine HFX.out.mono ?_;rintro e w4 ⟨rfl,hb4⟩)|fail)
    have hb5:Below w3.heap.size w3 (w4.alloc (.cells #[.string noDef.name,.int .i64 (noDef.obj:Int),.int .i64 (noDef.sym:Int)] 60)):=hb4.alloc hb4.size _;have hR4:=(hb5.block (gb+1) (by omega)).trans HR3.out;have hw5:=HW3.out.trans (hb5.mono (by omega));have x1':=Ax hb5 x1;have hsz5:gb+2≤(w4.alloc (.cells #[.string noDef.name,.int .i64 (noDef.obj:Int),.int .i64 (noDef.sym:Int)] 60)).heap.size:=Aw hsz3 hb5.size;generalize w4.alloc (.cells #[.string noDef.name,.int .i64 (noDef.obj:Int),.int .i64 (noDef.sym:Int)] 60)=w5 at*;generalize w4.heap.size=g4 at*;obtain⟨⟨r0,r1,r2⟩,r3,r4,r5⟩:=Bj _ _ _ _ _ _ hR4;have hst:=Cy (.int .i64 0) (.int .i64 0) (.int .i64 0) (by omega:gb≤gb+1) hR4;have HST:=Aa hst;have HW5:=Aa hw5;clear hst hw5 hR4 hb4 hb5 x0 x1 x2 x3 x4 x5 a0 a1;cases hb2:(x'.bind==2)with
    |true=>
     have hE:Hid (r=(⟨0,0,0⟩,0)):=Aa (by rw[HR3'.out,hb2];rfl);go_wp2_with fail
     exact Ma (x:=⟨0,0,0⟩) (n:=0) (by rfl) (by rfl) HGB.out HST.out.1 (HW5.out.trans (HST.out.2.below (by omega))) hE.out rfl
    |false=>
     have hE:Hid (r=(⟨0,0,0⟩,4)):=Aa (by rw[HR3'.out,hb2];rfl);go_wp2_with fail
     exact Ma (x:=⟨0,0,0⟩) (n:=4) (by rfl) (by rfl) HGB.out HST.out.1 (HW5.out.trans (HST.out.2.below (by omega))) hE.out rfl
   |some d=>
    obtain⟨ob2,y,hob2,hy2,hdf,hyn9⟩:=Zb hfi;clear hyn9;rw[hfi]at hr3 HFX;simp only[Option.getD_some,Option.isSome_some]at HFX;have hsy2:symAt2 l d.obj d.sym=some y:=by unfold symAt2;rw[hob2];exact hy2
    simp only[hsy2]at hr3;rw[Jj0 hdf]at hr3;have hE:Hid (r=(placeB y (d.obj:Int),0)):=Aa hr3;have HIY:=Aa (Jjh hob2 hy2);have HOB2:=Aa hob2;have HY2:=Aa hy2;clear hr3 hfi hfe hob2 hy2 hdf hsy2;go_upto_region 9 with(first|(go_at_call 23;refine HFX.out.mono ?_;rintro e w4 ⟨rfl,hb4⟩)|fail)
    have hb5:Below w3.heap.size w3 (w4.alloc (.cells #[.string d.name,.int .i64 (d.obj:Int),.int .i64 (d.sym:Int)] 60)):=hb4.alloc hb4.size _;obtain⟨⟨d0,d1,d2⟩,_⟩:=Bj _ _ _ _ _ _ (Ah w4 (.cells #[.string d.name,.int .i64 (d.obj:Int),.int .i64 (d.sym:Int)] 60));have hR4:=(hb5.block (gb+1) (by omega)).trans HR3.out;have hw5:=HW3.out.trans (hb5.mono (by omega));have hsz5:gb+2≤(w4.alloc (.cells #[.string d.name,.int .i64 (d.obj:Int),.int .i64 (d.sym:Int)] 60)).heap.size:=Aw hsz3 hb5.size;generalize w4.alloc (.cells #[.string d.name,.int .i64 (d.obj:Int),.int .i64 (d.sym:Int)] 60)=w5 at*;generalize w4.heap.size=g4 at*;have his5:=HIS.out w5 (by first|exact hw5|(rw[HGB.out];exact hw5)) (d.obj:Int) (d.sym:Int);rw[HIY.out]at his5;have HIS5:=Aa his5;have HR4:=Aa hR4;have HW5:=Aa hw5;clear his5 hR4 hw5 hb4 hb5 x0 x1 x2 x3 x4 x5 a0 a1 hJ hJ0 hJ' hJ2 hK hK0;go_wp2_with fail
    refine HIS5.out.mono ?_;rintro e w6 ⟨rfl,hb6⟩;have hR6:=(hb6.block (gb+1) (by omega)).trans HR4.out;have hw6:=HW5.out.trans (hb6.mono (by omega));have hsz6:gb+2≤w6.heap.size:=Aw hsz5 hb6.size;have d0':=Ax hb6 d0;have d1':=Ax hb6 d1;have d2':=Ax hb6 d2;obtain⟨b,off,p0,p1,p2,p4,c0,c1,c2,c4,hpe,e0,e1,e2,_,_,_,hsy,_,_,_⟩:=Du (HH.out.below Cg.keeps (show Below w.heap.size w w6 by rw[HGB.out];exact hw6)) HOB2.out;cases hpe;have hyl:d.sym < ob2.syms.length:=(Ab.1 HY2.out).1;obtain⟨b1,off1,y',hpe1,hy',⟨f0,_⟩,⟨f1,_⟩,⟨f2,_⟩,⟨f3,_⟩,⟨f4,_⟩,⟨f5,_⟩⟩:=hsy.at_ hyl;subst hpe1;obtain rfl:y'=y:=by rw[HY2.out]at hy';cases hy';rfl
    have hdl:d.obj < ln:=by rw[←HLN.out];exact(Ab.1 HOB2.out).1
    have hyb2:=(HOK.out ob2 (Ad HOB2.out)).few.2.1;generalize ob2.syms.length=yn2 at*;have hM:(d.obj:Int) < (ln:Int):=by omega
    have hM0:(0:Int)≤(d.obj:Int):=by omega
    have hM1:¬(ln:Int)≤(d.obj:Int):=by omega
    have hM2:¬(d.obj:Int) < 0:=by omega
    have hN:(d.sym:Int) < (yn2:Int):=by omega
    have hN0:(0:Int)≤(d.sym:Int):=by omega
    have hN1:¬(yn2:Int)≤(d.sym:Int):=by omega
    have hN2:¬(d.sym:Int) < 0:=by omega
    have HPX:=Aa fun W=>HPL.out W y' (d.obj:Int);generalize placeB y' (d.obj:Int)=pl at*;have HR6:=Aa hR6;have HW6:=Aa hw6;clear hR6 hw6 hb6 d0 d1 d2 hy' hsy e0 e2 hdl hyl;go_upto_region 10 with fail
    go_still_tail 12,(by kernel_rfl)
    go_wp2_with fail
    refine(HPX.out _).mono ?_;rintro e w7 ⟨rfl,hb7⟩;have hb7':Below w6.heap.size w6 w7:=((Ag _ w6).drew).trans hb7;have hR7:=(hb7'.block (gb+1) (by omega)).trans HR6.out;have hw7:=HW6.out.trans (hb7'.mono (by omega));have hsz7:gb+2≤w7.heap.size:=Aw hsz6 hb7'.size;obtain⟨⟨r0,r1,r2⟩,r3,r4,r5⟩:=Bj _ _ _ _ _ _ hR7;have hst:=Cy (.int .i64 pl.obj) (.int .i64 pl.sec) (.int .i64 pl.at_) (by omega:gb≤gb+1) hR7;have HST:=Aa hst;have HW7:=Aa hw7;clear hst hR7 hw7 hb7 hb7' d0' d1' d2' e1 f0 f1 f2 f3 f4 f5;go_wp2_with fail
    exact Ma (x:=pl) (n:=0) (by rfl) (by rfl) HGB.out HST.out.1 (HW7.out.trans (HST.out.2.below (by omega))) hE.out rfl
def Jcn(l:List Az)(D:List (List Bool))(S:List (List Lj)):Prop:=∀(i k:Nat)(o:Az)(s:Ca),l[i]?=some o→o.secs[k]?=some s→∃row x n,S[i]?=some row∧row[k]?=some x∧x.pcs=Ch D (i,k,s)∧Jcd x.pcs n∧(0≤x.first∧x.first≤1000000000000)∧(x.pcs≠ []→x.first=(Cv l D i k:Int))∧k≤1000
abbrev Jj (x:Et):Array Value:=#[.int .i64 x.off,.int .i64 x.type,.int .i64 x.add,.int .i64 x.to_,.int .i64 x.at_]
theorem Jc5{l:List Az}{D:List (List Bool)}{i k:Nat}{at_:Int}{o:Az}{s:Ca}{x:Lj}(hi:l[i]?=some o)(hk:o.secs[k]?=some s)(hp:x.pcs=Ch D (i,k,s))(hf:x.pcs≠ []→x.first=(Cv l D i k:Int)):findB l D ⟨(i:Int),(k:Int)+1,at_⟩=findPc x.pcs x.first.toNat at_:=by
 have e1:Ht l i=o:=by unfold Ht;rw[hi];rfl
 unfold findB;rw[if_neg (by simp only;omega)];simp only[Int.toNat_natCast,show((k:Int)+1 - 1).toNat=k by omega];rw[e1,hk];simp only;rw[←hp];by_cases he:x.pcs= []
 ·rw[he];unfold findPc;simp[inP,Ej]
 ·rw[hf he,Int.toNat_natCast]
theorem Sg{w:World}{g N:Nat}{v0 v1 v2 v3 v4:Value}{T:TypeId}(u0 u1 u2 u3 u4:Value)(hN:N≤g)(h:w.heap[g]?=some (.cells #[v0,v1,v2,v3,v4] T (0,0))):
 (((((w.setCell ⟨g,0,none⟩ u0).setCell ⟨g,1,none⟩ u1).setCell ⟨g,2,none⟩ u2).setCell ⟨g,3,none⟩ u3).setCell ⟨g,4,none⟩ u4).heap[g]?=some (.cells #[u0,u1,u2,u3,u4] T (0,0))∧FrT N [T] w (((((w.setCell ⟨g,0,none⟩ u0).setCell ⟨g,1,none⟩ u1).setCell ⟨g,2,none⟩ u2).setCell ⟨g,3,none⟩ u3).setCell ⟨g,4,none⟩ u4):=by
 have h0:=An w g 0 _ _ u0 h;have h1:=An _ g 1 _ _ u1 h0;have h2:=An _ g 2 _ _ u2 h1;have h3:=An _ g 3 _ _ u3 h2;have h4:=An _ g 4 _ _ u4 h3;exact⟨h4,((((FrT.set h (by simp) hN _).trans (FrT.set h0 (by simp) hN _)).trans (FrT.set h1 (by simp) hN _)).trans (FrT.set h2 (by simp) hN _)).trans (FrT.set h3 (by simp) hN _)⟩
theorem Cp(w:World)(g:Nat)(v0 v1 v2 v3:Value)(T:TypeId)(h:w.heap[g]?=some (.cells #[v0,v1,v2,v3] T (0,0))):w.cell? ⟨g,0,none⟩=some v0∧w.cell? ⟨g,1,none⟩=some v1∧w.cell? ⟨g,2,none⟩=some v2∧w.cell? ⟨g,3,none⟩=some v3:=by
 refine⟨?_,?_,?_,?_⟩
 all_goals exact(Am w g _ _ _ (0,0) h).trans rfl
theorem Nh{fn:Func}{p u:Tmp}(h:fn.results= #[.cell p 92,.tmp u])(tmps:Array Value)(w:World)(g:Nat)(v0 v1 v2 v3 v4 b:Value)(hp:tmps.getD p undef= .pointer (some ⟨g,0,none⟩))(hu:tmps.getD u undef=b)
 (hg:w.heap[g]?=some (.cells #[v0,v1,v2,v3,v4] 92 (0,0))):(results fn tmps).run Tryz.prog w= .ok (.tuple #[.agg #[v0,v1,v2,v3,v4],b]) w:=by
 obtain⟨⟨r0,r1,r2,r3,r4⟩,_⟩:=Ga _ _ _ _ _ _ _ _ hg;rw[results_cell_tmp h,hp,hu];go_simp
theorem Jk2(HPF:Ob)(po pd pf ps:Option Addr)(co nd cd nf cf cs i:Nat)(l:List Az)(D:List (List Bool))(S:List (List Lj))(r:Ea)(w:World)
 (hW:∀W,Below w.heap.size w W→Calls Tryz.prog 25 #[.slice po l.length co,.agg #[.slice pd nd cd,.slice pf nf cf],.int .i64 (i:Int),.int .i64 r.sym] W (Mq (Ck l D i r.sym) W))(hS:Bg 1 Gj w ps S)(hok:Jcn l D S)(hpl:Kw l (Ck l D i r.sym).1):
 Calls Tryz.prog 198 #[.agg #[.slice po l.length co,.slice pd nd cd,.slice pf nf cf,.slice ps S.length cs],.int .i64 (i:Int),.agg #[.int .i64 r.off,.int .i64 r.type,.int .i64 r.sym,.int .i64 r.add]] w fun e w'=>e= .returned (.tuple #[.agg (Jj (Fz l D i r).1),Fk (Fz l D i r).2])∧Below w.heap.size w w':=by
 obtain⟨⟨P0,P1,P2⟩,cd1,hwb⟩:∃(P:Cq)(n:Int),Ck l D i r.sym=(P,n):=⟨_,_,rfl⟩
 obtain⟨⟨E0,E1,E2,E3,E4⟩,en,heb⟩:∃(E:Et)(n:Int),Fz l D i r=(E,n):=⟨_,_,rfl⟩
 have hE:(⟨E0,E1,E2,E3,E4⟩,en)=(if cd1≠0 then(eZ,cd1)else if P1 < 1 then(⟨r.off,r.type,r.add,-1,P2⟩,0)else match findB l D ⟨P0,P1,P2⟩with
  |none=>(eZ,6)
  |some t=>(⟨r.off,r.type,r.add,t.1,t.2⟩,0)):=by rw[←heb];unfold Fz;rw[hwb];rfl
 rw[hwb]at hW hpl;rw[heb];have HE:=Aa hE;have HW:=Aa hW;have HS:=Aa fun W (hW:Below w.heap.size w W)=>hS.below Gj.keeps hW;have HPL:=Aa hpl;have HOK:=Aa hok;obtain⟨r0,r1,r2,r3⟩:=r;have hw0:Below w.heap.size w (((w.alloc (.cells #[.slice po l.length co,.slice pd nd cd,.slice pf nf cf,.slice ps S.length cs] 154)).alloc (.cells #[.int .i64 r0,.int .i64 r1,.int .i64 r2,.int .i64 r3] 94)).alloc (.cells (Jj eZ) 92)):=(((Ag _ w).alloc (Af _) _).alloc (by simp) _).alloc (by simp;omega) _;have hB:(((w.alloc (.cells #[.slice po l.length co,.slice pd nd cd,.slice pf nf cf,.slice ps S.length cs] 154)).alloc (.cells #[.int .i64 r0,.int .i64 r1,.int .i64 r2,.int .i64 r3] 94)).alloc (.cells (Jj eZ) 92)).heap[w.heap.size]?=some (.cells #[.slice po l.length co,.slice pd nd cd,.slice pf nf cf,.slice ps S.length cs] 154 (0,0)):=by
  rw[Below.heap_alloc _ _ _ (by simp;omega),Below.heap_alloc _ _ _ (by simp)];exact Ah w _
 have hR:(((w.alloc (.cells #[.slice po l.length co,.slice pd nd cd,.slice pf nf cf,.slice ps S.length cs] 154)).alloc (.cells #[.int .i64 r0,.int .i64 r1,.int .i64 r2,.int .i64 r3] 94)).alloc (.cells (Jj eZ) 92)).heap[w.heap.size+1]?=some (.cells #[.int .i64 r0,.int .i64 r1,.int .i64 r2,.int .i64 r3] 94 (0,0)):=by
  rw[Below.heap_alloc _ _ _ (by simp)];have:=Ah (w.alloc (.cells #[.slice po l.length co,.slice pd nd cd,.slice pf nf cf,.slice ps S.length cs] 154)) (.cells #[.int .i64 r0,.int .i64 r1,.int .i64 r2,.int .i64 r3] 94);simpa using this
 have hZ:(((w.alloc (.cells #[.slice po l.length co,.slice pd nd cd,.slice pf nf cf,.slice ps S.length cs] 154)).alloc (.cells #[.int .i64 r0,.int .i64 r1,.int .i64 r2,.int .i64 r3] 94)).alloc (.cells (Jj eZ) 92)).heap[w.heap.size+1+1]?=some (.cells (Jj eZ) 92 (0,0)):=by
  have:=Ah ((w.alloc (.cells #[.slice po l.length co,.slice pd nd cd,.slice pf nf cf,.slice ps S.length cs] 154)).alloc (.cells #[.int .i64 r0,.int .i64 r1,.int .i64 r2,.int .i64 r3] 94)) (.cells (Jj eZ) 92);simpa using this
 obtain⟨gb,hgb⟩:∃gb,gb=w.heap.size:=⟨_,rfl⟩
 have HGB:=Aa hgb;clear hE hW hS hpl hok heb hwb;go_enter Tryz.func198,Tryz.ntmps198;go_upto_region 1 with fail
 generalize (((w.alloc (.cells #[.slice po l.length co,.slice pd nd cd,.slice pf nf cf,.slice ps S.length cs] 154)).alloc (.cells #[.int .i64 r0,.int .i64 r1,.int .i64 r2,.int .i64 r3] 94)).alloc (.cells (Jj eZ) 92))=w3 at*;rw[←hgb]at hB hR hZ hw0⊢;obtain⟨x0,x1,x2,x3⟩:=Cp _ _ _ _ _ _ _ hR;have HW0:=Aa hw0;have HB:=Aa hB;have HR:=Aa hR;have HZ:=Aa hZ;clear hB hR hZ hw0 hgb;go_upto_region 2 with fail
 have hE3:=Ah w3 (.cells #[.int .i64 r0,.int .i64 r1,.int .i64 r3,.int .i64 0,.int .i64 0] 92);have hb34:Below w3.heap.size w3 (w3.alloc (.cells #[.int .i64 r0,.int .i64 r1,.int .i64 r3,.int .i64 0,.int .i64 0] 92)):=(Ag _ w3).alloc (Af _) _;generalize w3.alloc (.cells #[.int .i64 r0,.int .i64 r1,.int .i64 r3,.int .i64 0,.int .i64 0] 92)=w4 at*;have hB4:=(hb34.block gb (Ac.1 HB.out).1).trans HB.out;have hR4:=(hb34.block (gb+1) (Ac.1 HR.out).1).trans HR.out;have hZ4:=(hb34.block (gb+1+1) (Ac.1 HZ.out).1).trans HZ.out;have hg3:gb+1+1 < w3.heap.size:=(Ac.1 HZ.out).1;have HW4:=Aa (HW0.out.trans (hb34.mono (by omega)));generalize w3.heap.size=g3 at*;obtain⟨y0,y1,y2,y3⟩:=Cp _ _ _ _ _ _ _ hB4;obtain⟨z0,z1,z2,z3⟩:=Cp _ _ _ _ _ _ _ hR4;have HE4:=Aa hE3;have HB4:=Aa hB4;have HZ4:=Aa hZ4;have hwh:=HW.out w4 (by rw[←HGB.out];exact HW4.out);clear x0 x1 x2 x3 hE3 hB4 hR4 hZ4 hb34;by_cases hc:cd1=0
 ·subst hc;have HWX:Hid (Calls Tryz.prog 25 #[.slice po l.length co,.agg #[.slice pd nd cd,.slice pf nf cf],.int .i64 (i:Int),.int .i64 r2] w4 fun e w'=>e= .returned (.tuple #[.agg #[.int .i64 P0,.int .i64 P1,.int .i64 P2],.nilIface])∧Below w4.heap.size w4 w'):=Aa hwh;clear hwh
  go_upto_region 3 with(first|(go_at_call 25
                               refine HWX.out.mono ?_
                               rintro e w5 ⟨rfl,hb5⟩)|fail)
  have hP:=Ah w5 (.cells #[.int .i64 P0,.int .i64 P1,.int .i64 P2] 67);have hb46:Below w4.heap.size w4 (w5.alloc (.cells #[.int .i64 P0,.int .i64 P1,.int .i64 P2] 67)):=hb5.alloc hb5.size _;generalize w5.alloc (.cells #[.int .i64 P0,.int .i64 P1,.int .i64 P2] 67)=w6 at*;generalize w5.heap.size=g5 at*;have hE6:=(hb46.block g3 (Ac.1 HE4.out).1).trans HE4.out;have hZ6:=(hb46.block (gb+1+1) (Ac.1 HZ4.out).1).trans HZ4.out;have hB6:=(hb46.block gb (Ac.1 HB4.out).1).trans HB4.out;have hb6:Below gb w w6:=HW4.out.trans (hb46.mono (by have:=(Ac.1 HB4.out).1;omega));obtain⟨d0,d1,d2⟩:w6.cell? ⟨g5,0,none⟩=some (.int .i64 P0)∧w6.cell? ⟨g5,1,none⟩=some (.int .i64 P1)∧w6.cell? ⟨g5,2,none⟩=some (.int .i64 P2):=by
   obtain⟨⟨d0,d1,d2⟩,_⟩:=Bj _ _ _ _ _ _ hP;exact⟨d0,d1,d2⟩
  have HE6:=Aa hE6;have HZ6:=Aa hZ6;have HB6c:=Aa hB6;have HB6:=Aa hb6;have HP6:=Aa hP;clear y0 y1 y2 y3 z0 z1 z2 z3 hE6 hZ6 hB6 hb46 hb6 hP;rcases HPL.out.2 with hp0|⟨pi,pk,po_,ps_,hpe,hpi,hpk⟩
  ·have hp0':P1=0:=hp0;subst hp0'
   have hEn:Hid ((⟨E0,E1,E2,E3,E4⟩:Et)=⟨r0,r1,r3,-1,P2⟩∧en=0):=Aa (by
    have:=HE.out;rw[if_neg (by omega),if_pos (by omega)]at this
    exact Prod.mk.inj this)
   skip
   have k:=HE6.out;obtain⟨⟨k0,k1,k2,k3,k4⟩,f0,f1,f2,f3,f4⟩:=Ga _ _ _ _ _ _ _ _ k;clear k;have hne:g5≠g3:=fun e=>by
    have h1:=HP6.out;rw[e,HE6.out]at h1;simp at h1
   have hst:∀(W:World)(j:Nat)(v:Value),W.heap[g5]?=some (.cells #[.int .i64 P0,.int .i64 0,.int .i64 P2] 67 (0,0))→(W.setCell ⟨g3,j,none⟩ v).heap[g5]?=some (.cells #[.int .i64 P0,.int .i64 0,.int .i64 P2] 67 (0,0)):=fun W j v h=>(heap_setCell_other W ⟨g3,j,none⟩ g5 v hne).trans h;have hcl:∀(W:World),W.heap[g5]?=some (.cells #[.int .i64 P0,.int .i64 0,.int .i64 P2] 67 (0,0))→W.cell? ⟨g5,2,none⟩=some (.int .i64 P2):=fun W h=>(Am W g5 2 _ _ (0,0) h).trans rfl;have HST6:=Aa hst;have HCL6:=Aa hcl;clear hst hcl;have e3:(w6.setCell ⟨g3,3,none⟩ (.int .i64 (-1))).drew.cell? ⟨g5,2,none⟩=some (.int .i64 P2):=HCL6.out _ (show(w6.setCell ⟨g3,3,none⟩ (.int .i64 (-1))).heap[g5]?=_ from(HST6.out w6 3 (.int .i64 (-1)) HP6.out));have e4:(w6.setCell ⟨g3,4,none⟩ (.int .i64 P2)).drew.cell? ⟨g5,2,none⟩=some (.int .i64 P2):=HCL6.out _ (show(w6.setCell ⟨g3,4,none⟩ (.int .i64 P2)).heap[g5]?=_ from(HST6.out w6 4 (.int .i64 P2) HP6.out));have e34:((w6.setCell ⟨g3,3,none⟩ (.int .i64 (-1))).setCell ⟨g3,4,none⟩ (.int .i64 P2)).drew.cell? ⟨g5,2,none⟩=some (.int .i64 P2):=HCL6.out _ (show((w6.setCell ⟨g3,3,none⟩ (.int .i64 (-1))).setCell ⟨g3,4,none⟩ (.int .i64 P2)).heap[g5]?=_ from(HST6.out ((w6.setCell ⟨g3,3,none⟩ (.int .i64 (-1)))) 4 (.int .i64 P2) (HST6.out w6 3 (.int .i64 (-1)) HP6.out)));have e43:((w6.setCell ⟨g3,4,none⟩ (.int .i64 P2)).setCell ⟨g3,3,none⟩ (.int .i64 (-1))).drew.cell? ⟨g5,2,none⟩=some (.int .i64 P2):=HCL6.out _ (show((w6.setCell ⟨g3,4,none⟩ (.int .i64 P2)).setCell ⟨g3,3,none⟩ (.int .i64 (-1))).heap[g5]?=_ from(HST6.out ((w6.setCell ⟨g3,4,none⟩ (.int .i64 P2))) 3 (.int .i64 (-1)) (HST6.out w6 4 (.int .i64 P2) HP6.out)));go_upto_region 6 with fail
   go_cut [] (fun wx=>wx.heap[g3]?=some (.cells #[.int .i64 r0,.int .i64 r1,.int .i64 r3,.int .i64 (-1),.int .i64 P2] 92 (0,0))∧wx.heap[gb+1+1]?=some (.cells (Jj eZ) 92 (0,0))∧Below gb w wx)
   case first=>
    go_region_held (fun W=>W.cell? ⟨g5,2,none⟩=some (.int .i64 P2)) (first|exact d2|go_keep|exact e3|exact e4|exact e34|exact e43|fail) (fail)
    all_goals go_wp2_with fail
    all_goals go_meet
    all_goals exact⟨An _ g3 4 _ _ (.int .i64 P2) (An w6 g3 3 _ _ (.int .i64 (-1)) HE6.out),(heap_setCell_other _ ⟨g3,4,none⟩ _ _ (show gb+1+1≠g3 by omega)).trans ((heap_setCell_other w6 ⟨g3,3,none⟩ _ _ (show gb+1+1≠g3 by omega)).trans HZ6.out),((HB6.out.setCell (by simp only;omega) _).setCell (by simp only;omega) _).drew⟩
   case rest=>
    obtain⟨he,hz,hbx⟩:=hcut;obtain⟨⟨m0,m1,m2,m3,m4⟩,_⟩:=Ga _ _ _ _ _ _ _ _ he;obtain⟨⟨n0,n1,n2,n3,n4⟩,l0,l1,l2,l3,l4⟩:=Ga _ _ _ _ _ _ _ _ hz;have hset:=Sg (.int .i64 r0) (.int .i64 r1) (.int .i64 r3) (.int .i64 (-1)) (.int .i64 P2) (show gb≤gb+1+1 by omega) hz;have HST:=Aa hset;have HB9:=Aa (hbx.trans (hset.2.below (by have:=(Ac.1 hz).1;omega)));clear hset he hz hbx k0 k1 k2 k3 k4 f0 f1 f2 f3 f4 d0 d1 d2;go_wp2_with fail
    rw[hEn.out.1,hEn.out.2];exact bodyPost_ret (Nh rfl _ _ _ _ _ _ _ _ _ (by rfl) (by rfl) HST.out.1) rfl ⟨rfl,by first|exact HB9.out|(rw[←HGB.out];exact HB9.out)⟩
  ·obtain⟨rfl,rfl⟩:P0=(pi:Int)∧P1=(pk:Int)+1:=by
    simp only[Cq.mk.injEq]at hpe;exact⟨hpe.1,hpe.2.1⟩
   obtain⟨row,x,n,hrow,hx,hxp,hxk,hxf,hxe,hkb⟩:=HOK.out pi pk po_ ps_ hpi hpk;have hfb:findB l D ⟨(pi:Int),(pk:Int)+1,P2⟩=findPc x.pcs x.first.toNat P2:=Jc5 hpi hpk hxp hxe;have hfind:=Jau HPF po pd pf ps l.length co nd cd nf cf cs pi pk P2 n S row x w6 (HS.out w6 (by rw[←HGB.out];exact HB6.out)) hrow hx hxk hxf HPL.out.1 hkb;rw[←hfb]at hfind
   have HEE:Hid ((⟨E0,E1,E2,E3,E4⟩,en)=(match findB l D ⟨(pi:Int),(pk:Int)+1,P2⟩with
    |none=>(eZ,6)
    |some t=>(⟨r0,r1,r3,t.1,t.2⟩,0):Et × Int)):=Aa (by
    have:=HE.out;rw[if_neg (by omega),if_neg (by omega)]at this
    exact this)
   generalize findB l D ⟨(pi:Int),(pk:Int)+1,P2⟩=fb at*;obtain⟨y0,y1,y2,y3⟩:=Cp _ _ _ _ _ _ _ HB6c.out;have j0:¬(pk:Int)+1=0:=by omega
   have j1:((pk:Int)+1==0)=false:=by simp;omega
   cases fb with
   |none=>
    have hEn:Hid ((⟨E0,E1,E2,E3,E4⟩:Et)=eZ∧en=6):=Aa (Prod.mk.inj HEE.out);have HFD:Hid (Calls Tryz.prog 116 #[.agg #[.slice po l.length co,.slice pd nd cd,.slice pf nf cf,.slice ps S.length cs],.agg #[.int .i64 (pi:Int),.int .i64 ((pk:Int)+1),.int .i64 P2]] w6 fun e w'=>e= .returned (.tuple #[.int .i64 0,.int .i64 0,.bool false])∧Below w6.heap.size w6 w'):=Aa hfind;clear hfind hpe hpi hpk hrow hx hxp hxk hxf hxe hfb;go_upto_region 9 with fail
    go_upto_region 10 with(first|(go_at_call 116
                                  refine HFD.out.mono ?_;rintro e w7 ⟨rfl,hb7⟩;have hE7:=(hb7.block g3 (Ac.1 HE6.out).1).trans HE6.out;have hZ7:=(hb7.block (gb+1+1) (Ac.1 HZ6.out).1).trans HZ6.out;have hb7w:=HB6.out.trans (hb7.mono (by have:=(Ac.1 HZ6.out).1;omega))
                                  obtain⟨⟨k0,k1,k2,k3,k4⟩,f0,f1,f2,f3,f4⟩:=Ga _ _ _ _ _ _ _ _ hE7)|fail)
    have hset7:=An _ g3 4 _ _ (.int .i64 0) (An w7 g3 3 _ _ (.int .i64 0) hE7);have hz7:((w7.setCell ⟨g3,3,none⟩ (.int .i64 0)).setCell ⟨g3,4,none⟩ (.int .i64 0)).heap[gb+1+1]?=some (.cells (Jj eZ) 92 (0,0)):=(heap_setCell_other _ ⟨g3,4,none⟩ _ _ (show gb+1+1≠g3 by omega)).trans ((heap_setCell_other w7 ⟨g3,3,none⟩ _ _ (show gb+1+1≠g3 by omega)).trans hZ7);have hbx:Below gb w ((w7.setCell ⟨g3,3,none⟩ (.int .i64 0)).setCell ⟨g3,4,none⟩ (.int .i64 0)):=(hb7w.setCell (by simp only;omega) _).setCell (by simp only;omega) _
    skip
    generalize (w7.setCell ⟨g3,3,none⟩ (.int .i64 0)).setCell ⟨g3,4,none⟩ (.int .i64 0)=w8 at*;obtain⟨⟨m0,m1,m2,m3,m4⟩,_⟩:=Ga _ _ _ _ _ _ _ _ hset7;obtain⟨⟨n0,n1,n2,n3,n4⟩,l0,l1,l2,l3,l4⟩:=Ga _ _ _ _ _ _ _ _ hz7;have hset:=Sg (.int .i64 0) (.int .i64 0) (.int .i64 0) (.int .i64 0) (.int .i64 0) (show gb≤gb+1+1 by omega) hz7;have HST:=Aa hset;have HB9:=Aa (hbx.trans (hset.2.below (by have:=(Ac.1 hz7).1;omega)));clear hset hset7 hz7 hbx k0 k1 k2 k3 k4 f0 f1 f2 f3 f4 hE7 hZ7 hb7w;go_wp2_with fail
    rw[hEn.out.1,hEn.out.2];exact bodyPost_ret (Nh rfl _ _ _ _ _ _ _ _ _ (by rfl) (by rfl) HST.out.1) rfl ⟨rfl,by first|exact HB9.out|(rw[←HGB.out];exact HB9.out)⟩
   |some t=>
    have hEn:Hid ((⟨E0,E1,E2,E3,E4⟩:Et)=⟨r0,r1,r3,t.1,t.2⟩∧en=0):=Aa (Prod.mk.inj HEE.out);have HFD:Hid (Calls Tryz.prog 116 #[.agg #[.slice po l.length co,.slice pd nd cd,.slice pf nf cf,.slice ps S.length cs],.agg #[.int .i64 (pi:Int),.int .i64 ((pk:Int)+1),.int .i64 P2]] w6 fun e w'=>e= .returned (.tuple #[.int .i64 t.1,.int .i64 t.2,.bool true])∧Below w6.heap.size w6 w'):=Aa hfind;clear hfind hpe hpi hpk hrow hx hxp hxk hxf hxe hfb;go_upto_region 9 with fail
    go_upto_region 10 with(first|(go_at_call 116
                                  refine HFD.out.mono ?_;rintro e w7 ⟨rfl,hb7⟩;have hE7:=(hb7.block g3 (Ac.1 HE6.out).1).trans HE6.out;have hZ7:=(hb7.block (gb+1+1) (Ac.1 HZ6.out).1).trans HZ6.out;have hb7w:=HB6.out.trans (hb7.mono (by have:=(Ac.1 HZ6.out).1;omega))
                                  obtain⟨⟨k0,k1,k2,k3,k4⟩,f0,f1,f2,f3,f4⟩:=Ga _ _ _ _ _ _ _ _ hE7)|fail)
    have hset7:=An _ g3 4 _ _ (.int .i64 t.2) (An w7 g3 3 _ _ (.int .i64 t.1) hE7);have hz7:((w7.setCell ⟨g3,3,none⟩ (.int .i64 t.1)).setCell ⟨g3,4,none⟩ (.int .i64 t.2)).heap[gb+1+1]?=some (.cells (Jj eZ) 92 (0,0)):=(heap_setCell_other _ ⟨g3,4,none⟩ _ _ (show gb+1+1≠g3 by omega)).trans ((heap_setCell_other w7 ⟨g3,3,none⟩ _ _ (show gb+1+1≠g3 by omega)).trans hZ7);have hbx:Below gb w ((w7.setCell ⟨g3,3,none⟩ (.int .i64 t.1)).setCell ⟨g3,4,none⟩ (.int .i64 t.2)):=(hb7w.setCell (by simp only;omega) _).setCell (by simp only;omega) _
    skip
    generalize (w7.setCell ⟨g3,3,none⟩ (.int .i64 t.1)).setCell ⟨g3,4,none⟩ (.int .i64 t.2)=w8 at*;obtain⟨⟨m0,m1,m2,m3,m4⟩,_⟩:=Ga _ _ _ _ _ _ _ _ hset7;obtain⟨⟨n0,n1,n2,n3,n4⟩,l0,l1,l2,l3,l4⟩:=Ga _ _ _ _ _ _ _ _ hz7;have hset:=Sg (.int .i64 r0) (.int .i64 r1) (.int .i64 r3) (.int .i64 t.1) (.int .i64 t.2) (show gb≤gb+1+1 by omega) hz7;have HST:=Aa hset;have HB9:=Aa (hbx.trans (hset.2.below (by have:=(Ac.1 hz7).1;omega)));clear hset hset7 hz7 hbx k0 k1 k2 k3 k4 f0 f1 f2 f3 f4 hE7 hZ7 hb7w;go_wp2_with fail
    rw[hEn.out.1,hEn.out.2];exact bodyPost_ret (Nh rfl _ _ _ _ _ _ _ _ _ (by rfl) (by rfl) HST.out.1) rfl ⟨rfl,by first|exact HB9.out|(rw[←HGB.out];exact HB9.out)⟩
 ·have HWX:Hid (Calls Tryz.prog 25 #[.slice po l.length co,.agg #[.slice pd nd cd,.slice pf nf cf],.int .i64 (i:Int),.int .i64 r2] w4 fun e w'=>e= .returned (.tuple #[.agg #[.int .i64 P0,.int .i64 P1,.int .i64 P2],.iface 36 (.int .i64 cd1)])∧Below w4.heap.size w4 w'):=Aa (hwh.mono fun e w' ⟨h1,h2⟩=>⟨by rw[h1];unfold Fk;rw[if_neg hc],h2⟩)
  have hEn:Hid ((⟨E0,E1,E2,E3,E4⟩:Et)=eZ∧en=cd1):=Aa (by
   have:=HE.out;rw[if_pos hc]at this
   exact Prod.mk.inj this)
  clear hwh
  go_upto_region 3 with(first|(go_at_call 25
                               refine HWX.out.mono ?_
                               rintro e w5 ⟨rfl,hb5⟩)|fail)
  have hP:=Ah w5 (.cells #[.int .i64 P0,.int .i64 P1,.int .i64 P2] 67);have hb46:Below w4.heap.size w4 (w5.alloc (.cells #[.int .i64 P0,.int .i64 P1,.int .i64 P2] 67)):=hb5.alloc hb5.size _;generalize w5.alloc (.cells #[.int .i64 P0,.int .i64 P1,.int .i64 P2] 67)=w6 at*;generalize w5.heap.size=g5 at*;have hE6:=(hb46.block g3 (Ac.1 HE4.out).1).trans HE4.out;have hZ6:=(hb46.block (gb+1+1) (Ac.1 HZ4.out).1).trans HZ4.out;have hB6:=(hb46.block gb (Ac.1 HB4.out).1).trans HB4.out;have hb6:Below gb w w6:=HW4.out.trans (hb46.mono (by have:=(Ac.1 HB4.out).1;omega));have hset:=Sg (.int .i64 0) (.int .i64 0) (.int .i64 0) (.int .i64 0) (.int .i64 0) (show gb≤gb+1+1 by omega) hZ6;obtain⟨⟨k0,k1,k2,k3,k4⟩,f0,f1,f2,f3,f4⟩:=Ga _ _ _ _ _ _ _ _ hZ6;have HST:=Aa hset;have HB6:=Aa hb6;clear hset y0 y1 y2 y3 z0 z1 z2 z3 hE6 hZ6 hB6 hb46 hb6;go_wp2_with fail
  rw[hEn.out.1,hEn.out.2];exact bodyPost_ret (Nh rfl _ _ _ _ _ _ _ _ _ (by rfl) (by rfl) HST.out.1) rfl ⟨by unfold Fk;rw[if_neg hc];rfl,by first|exact HB6.out.trans (HST.out.2.below (by have:=HB6.out.size;omega))|(rw[←HGB.out];exact HB6.out.trans (HST.out.2.below (by have:=HB6.out.size;rw[←HGB.out]at this;omega)))⟩
def Re:Lf:=fun _ _ _=>⟨[],0,0,false⟩
def Mm(l:List Az)(D:List (List Bool))(i k:Nat)(s:Ca):Int:=bif hasN D (i,k,s)then(Cv l D i k:Int)else 0
def Gl(l:List Az)(D:List (List Bool))(a b:Nat):Lf:=fun i k s=>if i < a∨i=a∧k < b then⟨Ch D (i,k,s),Mm l D i k s,0,false⟩else⟨[],0,0,false⟩
def Rj(l:List Az)(a g:Nat)(ms:List Int)(i k:Nat):Int:=if i < a then Gm l i ((k:Int)+1)else if i=a then(bif ms.contains ((k:Int)+1)then((Bc Az.groups l a).length:Int)+(g:Int)+1 else Fn l a (Ht l a) ((k:Int)+1) g)else 0
def Em(l:List Az)(D:List (List Bool))(a g:Nat)(ms:List Int):Lf:=fun i k s=>⟨Ch D (i,k,s),Mm l D i k s,Rj l a g ms i k,false⟩
def Fy(l:List Az)(D:List (List Bool))(a q:Nat):Lf:=fun i k s=>⟨Ch D (i,k,s),Mm l D i k s,Gm l i ((k:Int)+1),(Bo Az.sig l a q).any (Gk l D i ((k:Int)+1))⟩
def Iu(l:List Az)(D:List (List Bool)):Lf:=fun i k s=>⟨Ch D (i,k,s),Mm l D i k s,Gm l i ((k:Int)+1),Lm l D i ((k:Int)+1)⟩
theorem Va{l:List Az}{i:Nat}{o:Az}(h:l[i]?=some o):Ht l i=o:=by unfold Ht;rw[h];rfl
theorem Jc2(l:List Az)(D:List (List Bool)):Gl l D 0 0=Re:=by
 funext i k s;unfold Gl Re;rw[if_neg (by omega)]
theorem Jf7{l:List Az}{D:List (List Bool)}{a b:Nat}{o:Az}{s:Ca}(ho:l[a]?=some o)(hs:o.secs[b]?=some s)(h:hasN D (a,b,s)=false):∀i k o' s',l[i]?=some o'→o'.secs[k]?=some s'→Gl l D a b i k s'=Gl l D a (b+1) i k s':=fun i k o' s' ho' hs'=>by
 unfold Gl;by_cases h1:i < a∨i=a∧k < b
 ·rw[if_pos h1,if_pos (by omega)]
 ·rw[if_neg h1];by_cases h2:i=a∧k=b
  ·obtain⟨rfl,rfl⟩:=h2;rw[ho]at ho';cases ho';rw[hs]at hs';cases hs';rw[if_pos (by omega)];unfold Ch Mm;rw[h];rfl
  ·rw[if_neg (by omega)]
theorem Jgb{l:List Az}{D:List (List Bool)}{a b:Nat}{o:Az}{s:Ca}(ho:l[a]?=some o)(hs:o.secs[b]?=some s)(h:hasN D (a,b,s)=true):∀i k o' s',l[i]?=some o'→o'.secs[k]?=some s'→Ls (Ls (Gl l D a b) a b ⟨piecesOf s,0,0,false⟩) a b ⟨piecesOf s,(Cv l D a b:Int),0,false⟩ i k s'=Gl l D a (b+1) i k s':=fun i k o' s' ho' hs'=>by
 unfold Ls Gl;by_cases h2:i=a∧k=b
 ·obtain⟨rfl,rfl⟩:=h2;rw[ho]at ho';cases ho';rw[hs]at hs';cases hs';rw[if_pos ⟨rfl,rfl⟩,if_pos (by omega)];unfold Ch Mm;rw[h];rfl
 ·rw[if_neg h2,if_neg h2];by_cases h1:i < a∨i=a∧k < b
  ·rw[if_pos h1,if_pos (by omega)]
  ·rw[if_neg h1,if_neg (by omega)]
theorem Jk9(l:List Az)(D:List (List Bool))(a b:Nat)(s:Ca):Gl l D a b a b s=⟨[],0,0,false⟩:=by unfold Gl;rw[if_neg (by omega)]
theorem Jfw{l:List Az}{D:List (List Bool)}{a b:Nat}{o:Az}(ho:l[a]?=some o)(hb:o.secs.length≤b):∀i k o' s',l[i]?=some o'→o'.secs[k]?=some s'→Gl l D a b i k s'=Gl l D (a+1) 0 i k s':=fun i k o' s' ho' hs'=>by
 unfold Gl;by_cases h1:i < a∨i=a∧k < b
 ·rw[if_pos h1,if_pos (by omega)]
 ·rw[if_neg h1,if_neg (fun h2=>?_)];have h3:i=a:=by omega
  subst h3;rw[ho]at ho';cases ho';have:=(Ab.1 hs').1;omega
theorem Jib(l:List Az)(D:List (List Bool)):Cv l D 0 0=0:=by unfold Cv;rw[Eb];rfl
theorem Yn{l:List Az}{D:List (List Bool)}{a b:Nat}{o:Az}{s:Ca}(ho:l[a]?=some o)(hs:o.secs[b]?=some s):Cv l D a (b+1)=Cv l D a b+(Ch D (a,b,s)).length:=by
 unfold Cv;rw[Fp ho hs,List.flatMap_append];simp
theorem Jia{l:List Az}{D:List (List Bool)}{a b:Nat}{o:Az}(ho:l[a]?=some o)(hb:o.secs.length≤b):Cv l D (a+1) 0=Cv l D a b:=by
 unfold Cv;rw[Eb,Ia (f:=Az.secs) ho hb]
theorem Jbz{l:List Az}{D:List (List Bool)}:∀i k o s,l[i]?=some o→o.secs[k]?=some s→Gl l D l.length 0 i k s=Em l D 0 0 [] i k s:=fun i k o s ho hs=>by
 have hi:=(Ab.1 ho).1;unfold Gl Em Rj;rw[if_pos (by omega),if_neg (by omega)];split<;>rfl
theorem Jd6{l:List Az}{D:List (List Bool)}{a g j:Nat}{ms:List Int}{n:Nat}(hj:ms[j]?=some ((n:Int)+1))(s:Ca):∀i k o' s',l[i]?=some o'→o'.secs[k]?=some s'→(i=a∧k=n→s'=s)→Ls (Em l D a g (ms.take j)) a n ⟨Ch D (a,n,s),Mm l D a n s,((Bc Az.groups l a).length:Int)+(g:Int)+1,false⟩ i k s'=Em l D a g (ms.take (j+1)) i k s':=fun i k o' s' _ _ he=>by
 unfold Ls Em;have ht:ms.take (j+1)=ms.take j++ [(n:Int)+1]:=by rw[List.take_add_one,hj];rfl
 by_cases h2:i=a∧k=n
 ·rw[if_pos h2,he h2];obtain⟨rfl,rfl⟩:=h2;unfold Rj;rw[if_neg (by omega),if_pos rfl,ht];simp
 ·rw[if_neg h2];congr 1;unfold Rj;by_cases h3:i < a
  ·rw[if_pos h3,if_pos h3]
  ·rw[if_neg h3,if_neg h3];by_cases h4:i=a
   ·subst h4;rw[if_pos rfl,if_pos rfl,ht];have hk:¬(k:Int)=(n:Int):=by omega
    have:(ms.take j++ [(n:Int)+1]).contains ((k:Int)+1)=(ms.take j).contains ((k:Int)+1):=by simp;omega
    rw[this]
   ·rw[if_neg h4,if_neg h4]
theorem Jbs{l:List Az}{D:List (List Bool)}{a g:Nat}{o:Az}{gr:Cs}(ho:l[a]?=some o)(hg:o.groups[g]?=some gr):∀i k o' s',l[i]?=some o'→o'.secs[k]?=some s'→Em l D a g gr.members i k s'=Em l D a (g+1) [] i k s':=fun i k o' s' _ _=>by
 unfold Em;congr 1;unfold Rj;by_cases h3:i < a
 ·rw[if_pos h3,if_pos h3]
 ·rw[if_neg h3,if_neg h3];by_cases h4:i=a
  ·subst h4;rw[if_pos rfl,if_pos rfl,Va ho,Ps hg];rfl
  ·rw[if_neg h4,if_neg h4]
theorem Jei{l:List Az}{D:List (List Bool)}{a g:Nat}{o:Az}(ho:l[a]?=some o)(hg:g=o.groups.length):∀i k o' s',l[i]?=some o'→o'.secs[k]?=some s'→Em l D a g [] i k s'=Em l D (a+1) 0 [] i k s':=fun i k o' s' _ _=>by
 unfold Em;congr 1;unfold Rj;by_cases h3:i < a
 ·rw[if_pos h3,if_pos (by omega)]
 ·rw[if_neg h3];by_cases h4:i=a
  ·subst h4;rw[if_pos rfl,if_pos (by omega)];unfold Gm;rw[Va ho,hg];rfl
  ·rw[if_neg h4,if_neg (by omega)];by_cases h5:i=a+1
   ·rw[if_pos h5];rfl
   ·rw[if_neg h5]
theorem Jfz{l:List Az}{D:List (List Bool)}:∀i k o s,l[i]?=some o→o.secs[k]?=some s→Em l D l.length 0 [] i k s=Fy l D 0 0 i k s:=fun i k o s ho hs=>by
 have hi:=(Ab.1 ho).1;unfold Em Fy Rj;rw[if_pos hi,Eb];rfl
theorem Jfr{l:List Az}{a:Nat}{o:Az}(ho:l[a]?=some o):(Bc Az.groups l (a+1)).length=(Bc Az.groups l a).length+o.groups.length:=by
 conv=>lhs;unfold Bc
 rw[ho];simp[Eh]
theorem Jkr{l:List Az}{D:List (List Bool)}{a q:Nat}{o:Az}{y:Int}(ho:l[a]?=some o)(hy:o.sig[q]?=some y)(h:(Ck l D a y).2≠0∨(Ck l D a y).1.sec < 1):∀i k o' s',l[i]?=some o'→o'.secs[k]?=some s'→Fy l D a q i k s'=Fy l D a (q+1) i k s':=fun i k o' s' _ _=>by
 unfold Fy;rw[Fp ho hy,List.any_append];have:Gk l D i ((k:Int)+1) (a,q,y)=false:=by
  unfold Gk;rcases h with h|h
  ·rw[show((Ck l D a y).2==0)=false by simpa using h];rfl
  ·rw[show((Ck l D a y).1.sec==(k:Int)+1)=false by simp;omega];simp
 simp[this]
theorem Jih{l:List Az}{D:List (List Bool)}{a q pi pk:Nat}{o:Az}{y at_:Int}{s:Ca}(ho:l[a]?=some o)(hy:o.sig[q]?=some y)(h0:(Ck l D a y).2=0)(h1:(Ck l D a y).1=⟨(pi:Int),(pk:Int)+1,at_⟩):∀i k o' s',l[i]?=some o'→o'.secs[k]?=some s'→(i=pi∧k=pk→s'=s)→Ls (Fy l D a q) pi pk ⟨Ch D (pi,pk,s),Mm l D pi pk s,Gm l pi ((pk:Int)+1),true⟩ i k s'=Fy l D a (q+1) i k s':=fun i k o' s' _ _ he=>by
 unfold Ls Fy;have hh:Gk l D i ((k:Int)+1) (a,q,y)=decide (i=pi∧k=pk):=by
  unfold Gk;rw[h0,h1];by_cases h2:i=pi∧k=pk
  ·obtain⟨rfl,rfl⟩:=h2;simp
  ·have:¬((pk:Int)+1=(k:Int)+1∧(pi:Int)=(i:Int)):=by omega
   simp[h2];omega
 rw[Fp ho hy,List.any_append,List.any_cons,hh];by_cases h2:i=pi∧k=pk
 ·rw[if_pos h2,he h2];obtain⟨rfl,rfl⟩:=h2;simp
 ·rw[if_neg h2];simp[h2]
theorem Jfb{l:List Az}{D:List (List Bool)}{a q:Nat}{o:Az}(ho:l[a]?=some o)(hq:o.sig.length≤q):Fy l D a q=Fy l D (a+1) 0:=by
 funext i k s;unfold Fy;rw[Eb,Ia (f:=Az.sig) ho hq]
theorem Jiv{l:List Az}{D:List (List Bool)}:Fy l D l.length 0=Iu l D:=by
 funext i k s;unfold Fy Iu Lm;rw[Eb]
def Iy(l:List Az)(D:List (List Bool)):List (List Lj):=l.mapIdx fun i o=>o.secs.mapIdx (Iu l D i)
theorem Qx(l:List Az)(D:List (List Bool)):(Iy l D).length=l.length:=by simp[Iy]
theorem Jcj{l:List Az}{D:List (List Bool)}{i k:Nat}{o:Az}{s:Ca}(ho:l[i]?=some o)(hs:o.secs[k]?=some s):∃row,(Iy l D)[i]?=some row∧row[k]?=some (Iu l D i k s)∧row.length=o.secs.length:=by
 refine⟨o.secs.mapIdx (Iu l D i),?_,?_,by simp⟩
 ·unfold Iy;rw[List.getElem?_mapIdx,ho];rfl
 ·rw[List.getElem?_mapIdx,hs];rfl
theorem Jbl{l:List Az}{D:List (List Bool)}(hs:Gi l)(hok:∀o∈l,OkD o)(i k:Nat):Cv l D i k≤(i+1)*16384000:=by
 have:=Nd (D:=D) hs hok i k
 rwa [Gv]at this
theorem Jlp{l:List Az}{D:List (List Bool)}(hs:Gi l){i k:Nat}{o:Az}{s:Ca}(ho:l[i]?=some o)(hk:o.secs[k]?=some s):Jcd (Ch D (i,k,s)) s.size∨Ch D (i,k,s)= []:=by
 unfold Ch;cases hasN D (i,k,s)with
 |false=>exact .inr rfl
 |true=>
  have hf:=(hs o (Ad ho) s (Ad hk)).facts;have h1:=Ey hf;exact .inl ⟨h1.2.1,h1.1,hf.1.2,h1.2.2.1,Vm⟩
theorem Jci{l:List Az}{D:List (List Bool)}(hs:Gi l)(hok:∀o∈l,OkD o)(hlc:l.length≤1000):Jcn l D (Iy l D):=fun i k o s ho hk=>by
 obtain⟨row,h1,h2,_⟩:=Jcj (D:=D) ho hk;have hi:=(Ab.1 ho).1;have hkl:=(Ab.1 hk).1;have hfew:=(hok o (Ad ho)).few.1;have hff:=Jbl (D:=D) hs hok i k;have hfm:(i+1)*16384000≤1001*16384000:=Nat.mul_le_mul_right _ (by omega);have hpo:∃n,Jcd (Ch D (i,k,s)) n:=by
  rcases Jlp (D:=D) hs ho hk with h|h
  ·exact⟨_,h⟩
  ·refine⟨0,?_⟩;rw[h];exact⟨by simp,⟨rfl,fun i p hp=>by simp at hp⟩,by omega,fun p hp=>by simp at hp,.inr fun p hp=>by simp at hp⟩
 obtain⟨n,hn⟩:=hpo;refine⟨row,Iu l D i k s,n,h1,h2,rfl,hn,?_,fun hne=>?_,by omega⟩
 ·show 0≤Mm l D i k s∧Mm l D i k s≤1000000000000;unfold Mm;cases hasN D (i,k,s)<;>simp only[cond_true,cond_false]<;>omega
 ·show Mm l D i k s=_;unfold Mm;cases hq:hasN D (i,k,s)with
  |true=>rfl
  |false=>
   refine absurd ?_ hne;show Ch D (i,k,s)= [];unfold Ch;rw[hq];rfl
theorem Jgq{α β:Type}{f:α→List β}:∀{xs:List α}{i:Nat}{y:β},(xs.flatMap f)[i]?=some y→∃pre x post j,xs=pre++x::post∧(f x)[j]?=some y∧i=(pre.flatMap f).length+j
 | [],i,y,h=>by simp at h
 |x::xs,i,y,h=>by
  rw[List.flatMap_cons]at h;by_cases hi:i < (f x).length
  ·rw[List.getElem?_append_left hi]at h;exact⟨[],x,xs,i,rfl,h,by simp⟩
  ·rw[List.getElem?_append_right (by omega)]at h;obtain⟨pre,x',post,j,e,h1,h2⟩:=Jgq h;exact⟨x::pre,x',post,j,by rw[e];rfl,h1,by rw[List.flatMap_cons,List.length_append];omega⟩
theorem Ul{α:Type}{x:α}:∀{A R pre post:List α},x∉A→x∉R→pre++x::post=A++x::R→pre=A∧post=R
 | [],R, [],post,_,_,h=>⟨rfl,by simpa using h⟩
 |a::A,R, [],post,hA,_,h=>by
  simp only[List.nil_append,List.cons_append,List.cons.injEq]at h;exact absurd (by rw[h.1];simp) hA
 | [],R,p::pre,post,_,hR,h=>by
   simp only[List.nil_append,List.cons_append,List.cons.injEq]at h;exact absurd (by rw[←h.2];simp) hR
 |a::A,R,p::pre,post,hA,hR,h=>by
  simp only[List.cons_append,List.cons.injEq]at h;obtain⟨e1,e2⟩:=Ul (fun hm=>hA (List.mem_cons_of_mem _ hm)) hR h.2;exact⟨by rw[h.1,e1],e2⟩
structure Jrd(l:List Az)(D:List (List Bool))(i:Nat)(y:Ce)(a k j:Nat)(o:Az)(s:Ca)(p:PcD):Prop where
 ho:l[a]?=some o
 hs:o.secs[k]?=some s
 has:hasN D (a,k,s)=true
 hp:(piecesOf s)[j]?=some p
 hy:y=mkN l D (a,k,s) p
 hi:i=Cv l D a k+j
 next:∀q,(piecesOf s)[j+1]?=some q→(nodesOf l D (Cl l))[i+1]?=some (mkN l D (a,k,s) q)
 prev:∀q,0 < j→(piecesOf s)[j - 1]?=some q→(nodesOf l D (Cl l))[i - 1]?=some (mkN l D (a,k,s) q)
 first:j=0→i=0∨∃z,(nodesOf l D (Cl l))[i - 1]?=some z∧(z.obj≠(a:Int)∨z.sec≠(k:Int)+1)
 last:j+1=(piecesOf s).length→i+1=(nodesOf l D (Cl l)).length∨∃z,(nodesOf l D (Cl l))[i+1]?=some z∧(z.obj≠(a:Int)∨z.sec≠(k:Int)+1)
theorem Pi{l:List Az}{D:List (List Bool)}{a k:Nat}{o:Az}{s:Ca}(ho:l[a]?=some o)(hs:o.secs[k]?=some s):∃rest,Cl l=Bo Az.secs l a k++(a,k,s)::rest∧nodesOf l D (Cl l)=nodesOf l D (Bo Az.secs l a k)++((Ch D (a,k,s)).map (mkN l D (a,k,s))++nodesOf l D rest)∧
 (∀y∈nodesOf l D (Bo Az.secs l a k),y.obj≠(a:Int)∨y.sec≠(k:Int)+1)∧(∀y∈nodesOf l D rest,y.obj≠(a:Int)∨y.sec≠(k:Int)+1)∧(a,k,s)∉Bo Az.secs l a k∧(a,k,s)∉rest:=by
 obtain⟨rest,e,hr⟩:=Vv (f:=Az.secs) ho hs (n:=l.length) (Ab.1 ho).1;refine⟨rest,e,?_,fun y hy=>?_,fun y hy=>?_,fun hm=>?_,fun hm=>?_⟩
 ·unfold Cl;rw[e,Lv];congr 1
 ·obtain⟨x,hx,p,_,rfl⟩:=Mg hy;have:=Zo x hx;show(x.1:Int)≠a∨(x.2.1:Int)+1≠(k:Int)+1;omega
 ·obtain⟨x,hx,p,_,rfl⟩:=Mg hy;have:=hr x hx;show(x.1:Int)≠a∨(x.2.1:Int)+1≠(k:Int)+1;omega
 ·have:=Zo _ hm;simp only at this;omega
 ·have:=hr _ hm;simp only at this;omega
theorem Jaq{D:List (List Bool)}{x:Sx}{j:Nat}{p:PcD}(h:(Ch D x)[j]?=some p):hasN D x=true∧Ch D x=piecesOf x.2.2:=by
 unfold Ch at h⊢;cases hq:hasN D x with
 |false=>rw[hq]at h;simp at h
 |true=>exact⟨rfl,rfl⟩
theorem Jp4{l:List Az}{D:List (List Bool)}{i:Nat}{y:Ce}(h:(nodesOf l D (Cl l))[i]?=some y):∃a k j o s p,Jrd l D i y a k j o s p:=by
 have h0:=h;unfold nodesOf at h;obtain⟨pre,⟨a,k,s⟩,post,j,e,hj,hi⟩:=Jgq h;have hm:(a,k,s)∈Cl l:=by rw[e];simp
 obtain⟨_,o,ho,hs⟩:=Gh.1 hm;obtain⟨rest,e1,e2,n1,n2,m1,m2⟩:=Pi (D:=D) ho hs;obtain⟨rfl,rfl⟩:=Ul m1 m2 (e.symm.trans e1);rw[List.getElem?_map]at hj;cases hp:(Ch D (a,k,s))[j]? with
 |none=>rw[hp]at hj;cases hj
 |some p=>
  rw[hp]at hj;cases hj;obtain⟨hh,hpc⟩:=Jaq hp;have hpc:Ch D (a,k,s)=piecesOf s:=hpc;have hi2:i=Cv l D a k+j:=by
   rw[hi];congr 1;exact Gv l D _
  have hf:(nodesOf l D (Bo Az.secs l a k)).length=Cv l D a k:=Gv _ _ _;have hml:((piecesOf s).map (mkN l D (a,k,s))).length=(piecesOf s).length:=by simp
  rw[hpc]at hp e2;have hjl:=(Ab.1 hp).1;refine⟨a,k,j,o,s,p,ho,hs,hh,hp,rfl,hi2,fun q hq=>?_,fun q h0 hq=>?_,fun h0=>?_,fun hl=>?_⟩
  ·have hq1:=(Ab.1 hq).1;rw[e2,List.getElem?_append_right (by omega),List.getElem?_append_left (by omega),List.getElem?_map,show i+1 - (nodesOf l D (Bo Az.secs l a k)).length=j+1 by omega,hq];rfl
  ·rw[e2,List.getElem?_append_right (by omega),List.getElem?_append_left (by omega),List.getElem?_map,show i - 1 - (nodesOf l D (Bo Az.secs l a k)).length=j - 1 by omega,hq];rfl
  ·by_cases hz:Cv l D a k=0
   ·left;omega
   ·right;refine⟨(nodesOf l D (Bo Az.secs l a k))[Cv l D a k - 1]'(by omega),?_,n1 _ (List.getElem_mem _)⟩;rw[e2,List.getElem?_append_left (by omega),Ae (by omega)];congr 2;omega
  ·have hlen:(nodesOf l D (Cl l)).length=Cv l D a k+((piecesOf s).length+(nodesOf l D post).length):=by rw[e2,List.length_append,List.length_append,hf,hml]
   by_cases hz:(nodesOf l D post).length=0
   ·left;omega
   ·right;refine⟨(nodesOf l D post)[0]'(by omega),?_,n2 _ (List.getElem_mem _)⟩;rw[e2,List.getElem?_append_right (by omega),List.getElem?_append_right (by omega),Ae (by omega)];congr 2;omega
theorem Qv{l:List PcD}{at_:Int}:∀k,0≤Ej l at_ k→∃(i:Nat)(p:PcD),Ej l at_ k=(i:Int)∧l[i]?=some p∧p.at_≤at_∧at_≤p.at_+p.size
 |0,h=>by simp[Ej]at h
 |k+1,h=>by
  unfold Ej at h⊢;cases hq:l[k]? with
  |none=>rw[hq]at h;exact Qv k h
  |some p=>
   rw[hq]at h;simp only at h⊢;cases hh:inB2 l.length at_ k p with
   |true=>
    refine⟨k,p,rfl,hq,?_⟩;unfold inB2 at hh;simp only[Bool.and_eq_true,Bool.or_eq_true,decide_eq_true_eq,beq_iff_eq]at hh;omega
   |false=>rw[hh]at h;exact Qv k h
theorem Ji3{l:List Az}{D:List (List Bool)}{p:Cq}{t:Int × Int}(h:findB l D p=some t):∃(i:Nat)(y:Ce),t.1=(i:Int)∧(nodesOf l D (Cl l))[i]?=some y∧0≤t.2∧t.2≤y.size:=by
 unfold findB at h;split at h
 ·cases h
 ·rename_i hsec;cases hs:(Ht l p.obj.toNat).secs[(p.sec - 1).toNat]? with
  |none=>rw[hs]at h;cases h
  |some s=>
   rw[hs]at h;simp only at h;have ho:l[p.obj.toNat]?=some (Ht l p.obj.toNat):=by
    unfold Ht at hs⊢;cases hq:l[p.obj.toNat]? with
    |none=>rw[hq]at hs;simp at hs
    |some o=>rfl
   obtain⟨rest,e1,e2,n1,n2,m1,m2⟩:=Pi (D:=D) ho hs;unfold findPc at h;split at h
   ·cases h
   ·rename_i hin;obtain⟨j,q,hj,hq,hq1,hq2⟩:=Qv (l:=Ch D (p.obj.toNat,(p.sec - 1).toNat,s)) (at_:=p.at_) (Ch D (p.obj.toNat,(p.sec - 1).toNat,s)).length (by unfold inP at hin;omega);have hj2:inP (Ch D (p.obj.toNat,(p.sec - 1).toNat,s)) p.at_=(j:Int):=hj;rw[hj2,Int.toNat_natCast,hq]at h;cases h;have hf:(nodesOf l D (Bo Az.secs l p.obj.toNat (p.sec - 1).toNat)).length=Cv l D p.obj.toNat (p.sec - 1).toNat:=Gv _ _ _;have hjl:=(Ab.1 hq).1;refine⟨Cv l D p.obj.toNat (p.sec - 1).toNat+j,mkN l D (p.obj.toNat,(p.sec - 1).toNat,s) q,by simp,?_,by show 0≤p.at_ - q.at_;omega,by show p.at_ - q.at_≤q.size;omega⟩;rw[e2,List.getElem?_append_right (by omega),List.getElem?_append_left (by rw[List.length_map];omega),List.getElem?_map,show Cv l D p.obj.toNat (p.sec - 1).toNat+j - (nodesOf l D (Bo Az.secs l p.obj.toNat (p.sec - 1).toNat)).length=j by omega,hq];rfl
theorem Jeg{l:List Az}{D:List (List Bool)}{defs:List Bb}(h:Dz defs):(namesB l D defs).Pairwise fun a b=>sLt a.name b.name=true:=by
 unfold namesB;rw[List.pairwise_filterMap];refine h.imp fun{a b} hab x hx y hy=>?_;have hn:∀(d:Bb)(m:NmD),Ih l D d=some m→m.name=d.name:=fun d m hd=>by
  unfold Ih at hd;split at hd
  ·cases hd
  ·cases hf:findB l D (Ck l D d.obj d.sym).1 with
   |none=>rw[hf]at hd;cases hd
   |some t=>rw[hf]at hd;cases hd;rfl
 rw[hn a x hx,hn b y hy];exact hab
theorem Jm2{s:Ca}(h:Mr s){j:Nat}{p:PcD}(hp:(piecesOf s)[j]?=some p):(p.at_=0 ↔ j=0)∧(p.at_+p.size=s.size ↔ j+1=(piecesOf s).length)∧(0≤p.at_∧0≤p.size∧p.at_+p.size≤s.size)∧∀q,0 < j→(piecesOf s)[j - 1]?=some q→p.at_=q.at_+q.size:=by
 obtain⟨⟨hc1,hc2⟩,_,hb,_⟩:=Ey h;have hjl:=(Ab.1 hp).1;have hpos:∀a b,a≤b→b≤(piecesOf s).length→Fr ((piecesOf s).take a)≤Fr ((piecesOf s).take b)∧((piecesOf s).length≠1→a < b→Fr ((piecesOf s).take a) < Fr ((piecesOf s).take b)):=fun a b hab hbl=>by
  induction b with
  |zero=>
   obtain rfl:a=0:=by omega
   exact⟨Int.le_refl _,fun _ h=>by omega⟩
  |succ b ih=>
   obtain⟨q,hq⟩:∃q,(piecesOf s)[b]?=some q:=⟨_,Ae (by omega)⟩
   have e:=Hs hq;have hq0:=(hc2 b q hq).2;by_cases hb2:a=b+1
   ·rw[hb2];exact⟨Int.le_refl _,fun _ h=>by omega⟩
   ·have ih:=ih (by omega) (by omega);refine⟨by omega,fun hne _=>?_⟩;rcases Vm (s:=s)with h1|h1
    ·exact absurd h1 hne
    ·have:=h1 q (Ad hq);omega
 have hpa:=(hc2 j p hp).1;have ej:=Hs hp;have e0:Fr ((piecesOf s).take 0)=0:=rfl;have eN:Fr ((piecesOf s).take (piecesOf s).length)=s.size:=by rw[List.take_length];exact hc1
 refine⟨⟨fun h0=>?_,fun h0=>?_⟩,⟨fun h0=>?_,fun h0=>?_⟩,hb p (Ad hp),fun q hq0 hq=>?_⟩
 ·by_cases hj:j=0
  ·exact hj
  ·have:=(hpos 0 j (by omega) (by omega)).2 (by omega) (by omega);omega
 ·subst h0;omega
 ·by_cases hj:j+1=(piecesOf s).length
  ·exact hj
  ·have:=(hpos (j+1) (piecesOf s).length (by omega) (Af _)).2 (by omega) (by omega);omega
 ·rw[←h0]at eN;omega
 ·have e1:=Hs hq;have e2:=(hc2 (j - 1) q hq).1;rw[show j - 1+1=j by omega]at e1;omega
abbrev Px:=Sx × PcD
def Bs(l:List Az)(D:List (List Bool)):List Px:=(Cl l).flatMap fun x=>(Ch D x).map fun p=>(x,p)
theorem Ix(l:List Az)(D:List (List Bool)):nodesOf l D (Cl l)=(Bs l D).map fun q=>mkN l D q.1 q.2:=by
 unfold nodesOf Bs;rw[List.map_flatMap];congr 1;funext x;rw[List.map_map];rfl
theorem Jao(l:List Az)(D:List (List Bool)):(Cl l).flatMap (Kr l D)=(Bs l D).flatMap fun q=>De l D q.1:=by
 unfold Bs;rw[List.flatMap_assoc];congr 1;funext x;rw[List.flatMap_map];rfl
theorem Jeq{l:List Az}{D:List (List Bool)}{q:Px}(h:q∈Bs l D):∃o,l[q.1.1]?=some o∧o.secs[q.1.2.1]?=some q.1.2.2∧q.2∈Ch D q.1:=by
 unfold Bs at h;obtain⟨x,hx,hq⟩:=List.mem_flatMap.1 h;obtain⟨p,hp,rfl⟩:=List.mem_map.1 hq;obtain⟨_,o,h1,h2⟩:=Gh.1 (show(x.1,x.2.1,x.2.2)∈_ from hx);exact⟨o,h1,h2,hp⟩
def Qs(l:List Az)(D:List (List Bool))(i k j:Nat)(q:Px):List Et:=if j < i then Da l D q.1 else if j=i then(Da l D q.1).take k else []
def Gt(l:List Az)(D:List (List Bool))(i k:Nat):List Ce:=(Bs l D).mapIdx fun j q=>{mkN l D q.1 q.2 with edges:=Qs l D i k j q}
theorem Jdl(l:List Az)(D:List (List Bool))(i k:Nat):(Gt l D i k).length=(Bs l D).length:=by simp[Gt]
theorem Jcb{l:List Az}{D:List (List Bool)}{i k j:Nat}{q:Px}(h:(Bs l D)[j]?=some q):(Gt l D i k)[j]?=some {mkN l D q.1 q.2 with edges:=Qs l D i k j q}:=by
 unfold Gt;rw[List.getElem?_mapIdx,h];rfl
theorem Jgo(l:List Az)(D:List (List Bool)):Ep l D (Cl l)=Gt l D 0 0:=by
 unfold Ep;rw[Ix,List.map_map];apply List.ext_getElem?;intro j;unfold Gt;rw[List.getElem?_map,List.getElem?_mapIdx];cases h:(Bs l D)[j]? with
 |none=>rfl
 |some q=>
  simp only[Option.map_some,Function.comp];unfold Qs Ce.bare;by_cases hj:j=0<;>simp[hj]
theorem Jru(l:List Az)(D:List (List Bool)):Gt l D (Bs l D).length 0=nodesOf l D (Cl l):=by
 rw[Ix];apply List.ext_getElem?;intro j;unfold Gt;rw[List.getElem?_map,List.getElem?_mapIdx];cases h:(Bs l D)[j]? with
 |none=>rfl
 |some q=>
  have hj:=(Ab.1 h).1;simp only[Option.map_some];unfold Qs;rw[if_pos hj];rfl
theorem Jgz{l:List Az}{D:List (List Bool)}{i k:Nat}{q:Px}(h:(Bs l D)[i]?=some q)(hk:(Da l D q.1).length≤k):Gt l D i k=Gt l D (i+1) 0:=by
 apply List.ext_getElem?;intro j;unfold Gt;rw[List.getElem?_mapIdx,List.getElem?_mapIdx];cases hq:(Bs l D)[j]? with
 |none=>rfl
 |some q'=>
  simp only[Option.map_some,Option.some.injEq];congr 1;unfold Qs;by_cases h1:j < i
  ·rw[if_pos h1,if_pos (by omega)]
  ·rw[if_neg h1];by_cases h2:j=i
   ·subst h2;rw[h]at hq;cases hq;rw[if_pos rfl,if_pos (by omega),List.take_of_length_le hk]
   ·rw[if_neg h2,if_neg (by omega)];split<;>simp
theorem Jrc{l:List Az}{D:List (List Bool)}{i k:Nat}{q:Px}(h:(Bs l D)[i]?=some q):(Gt l D i 0).set i {mkN l D q.1 q.2 with edges:=(Da l D q.1).take k}=Gt l D i k:=by
 apply List.ext_getElem?;intro j;rw[List.getElem?_set];by_cases hj:i=j
 ·subst hj;rw[if_pos rfl,if_pos (by rw[Jdl];exact(Ab.1 h).1),Jcb h];unfold Qs;rw[if_neg (by omega),if_pos rfl]
 ·rw[if_neg hj];unfold Gt;rw[List.getElem?_mapIdx,List.getElem?_mapIdx];cases (Bs l D)[j]? with
  |none=>rfl
  |some q'=>
   simp only[Option.map_some,Option.some.injEq];congr 1;unfold Qs;by_cases h1:j < i
   ·rw[if_pos h1,if_pos h1]
   ·rw[if_neg h1,if_neg h1,if_neg (by omega),if_neg (by omega)]
theorem Jgv{l:List Az}{D:List (List Bool)}{P:Cq}(hP:Kw l P):Qk (nodesOf l D (Cl l)) P=(findB l D P).getD (-1,0):=by
 rcases hP.2 with h0|⟨i,k,o,s,e,ho,hs⟩
 ·unfold Qk findB;rw[Jop h0,if_pos (by decide),if_pos (by omega)];rfl
 ·have hN:=Jnl (D:=D) (at_:=P.at_) ho hs;rw[←e]at hN;have hob:Ht l P.obj.toNat=o:=by rw[e];unfold Ht;simp[ho]
  have e1:P.obj=(i:Int):=by rw[e]
  have e2:P.sec=(k:Int)+1:=by rw[e]
  have e3:(P.sec - 1).toNat=k:=by omega
  have e4:P.obj.toNat=i:=by omega
  unfold Qk findB;rw[hN,if_neg (show¬P.sec < 1 by omega),hob,e3,hs,e4];simp only;unfold findPc;by_cases hp:inP (Ch D (i,k,s)) P.at_ < 0
  ·simp[hp]
  ·have hge:¬(Cv l D i k:Int)+inP (Ch D (i,k,s)) P.at_ < 0:=by omega
   simp only[if_neg hp,if_neg hge];have hp0:0≤Ej (Ch D (i,k,s)) P.at_ (Ch D (i,k,s)).length:=by
    have:Ej (Ch D (i,k,s)) P.at_ (Ch D (i,k,s)).length=inP (Ch D (i,k,s)) P.at_:=rfl;omega
   obtain⟨j,p,hj,hpj,_,_⟩:=Qv _ hp0;have hj2:inP (Ch D (i,k,s)) P.at_=(j:Int):=hj;rw[hj2];have ht:((j:Int)).toNat=j:=by omega
   rw[ht,hpj];simp only[Option.map_some,Option.getD_some,Prod.mk.injEq,true_and];have hpos:Xv (nodesOf l D (Cl l)) ((Cv l D i k:Int)+(j:Int)).toNat=p.at_:=by
    obtain⟨rest,_,e2,_⟩:=Pi (D:=D) ho hs;have hf:(nodesOf l D (Bo Az.secs l i k)).length=Cv l D i k:=Gv _ _ _;have hjl:=(Ab.1 hpj).1;unfold Xv;rw[e2,List.getElem?_append_right (by omega),List.getElem?_append_left (by rw[List.length_map];omega),List.getElem?_map,show((Cv l D i k:Int)+(j:Int)).toNat - (nodesOf l D (Bo Az.secs l i k)).length=j by omega,hpj];rfl
   rw[hpos]
theorem Jji{l:List Az}{D:List (List Bool)}{i k:Nat}{q:Px}(h:(Bs l D)[i]?=some q)(h0:Bw (((Bs l D).take i).flatMap fun q=>De l D q.1)=0)(h1:Bw ((De l D q.1).take k)=0){c:Int}(hc:(De l D q.1)[k]?=some c)(hne:c≠0):Hf l D=c:=by
 have hi:=(Ab.1 h).1;have hk:=(Ab.1 hc).1;unfold Hf;rw[Jao];have e1:Bs l D=(Bs l D).take i++q::(Bs l D).drop (i+1):=by
  conv=>lhs;rw[←List.take_append_drop i (Bs l D)]
  rw[List.drop_eq_getElem_cons hi,(Ab.1 h).2]
 have e2:De l D q.1=(De l D q.1).take k++c::(De l D q.1).drop (k+1):=by
  conv=>lhs;rw[←List.take_append_drop k (De l D q.1)]
  rw[List.drop_eq_getElem_cons hk,(Ab.1 hc).2]
 rw[e1,List.flatMap_append,Dx,if_pos h0,List.flatMap_cons,e2,List.append_assoc,Dx,if_pos h1];unfold Bw;simp only[List.cons_append];rw[if_neg hne]
theorem Jcm{l:List Az}{D:List (List Bool)}{i:Nat}{q:Px}(h:(Bs l D)[i]?=some q)(h0:Bw (((Bs l D).take i).flatMap fun q=>De l D q.1)=0)(h1:Bw (De l D q.1)=0):Bw (((Bs l D).take (i+1)).flatMap fun q=>De l D q.1)=0:=by
 rw[Hm h,List.flatMap_append,Dx,if_pos h0];simpa using h1
theorem Jno{cs:List Int}{k:Nat}(h:Bw (cs.take k)=0)(hc:cs[k]?=some 0):Bw (cs.take (k+1))=0:=by
 rw[Hm hc,Dx,if_pos h];rfl
theorem Jol(l:List Az)(D:List (List Bool))(h0:Bw (((Bs l D).take (Bs l D).length).flatMap fun q=>De l D q.1)=0):Hf l D=0:=by
 unfold Hf;rw[Jao]
 rwa [List.take_length]at h0
theorem Jg1{w:World}{p:Option Addr}{l:List Ea}(h:Bg 4 Hk w p l):∀r∈l,r.bd:=fun r hr=>by
 obtain⟨k,hk⟩:=Av hr;obtain⟨b,off,e0,e1,e2,e3,e4⟩:=h k r hk;exact⟨e1.2,e2.2,e3.2,e4.2⟩
theorem Jkq{l:List Az}{D:List (List Bool)}(hs:Gi l)(hok:∀o∈l,OkD o)(hlc:l.length≤1000):(nodesOf l D (Cl l)).length≤1001*16384000:=by
 have h:=Nd (D:=D) hs hok l.length 0;rw[Eb]at h;have h2:(l.length+1)*16384000≤1001*16384000:=Nat.mul_le_mul_right _ (by omega);exact Aw h h2
theorem Jqt{l:List Az}{D:List (List Bool)}(hs:Gi l)(hok:∀o∈l,OkD o)(hlc:l.length≤1000)(hbd:∀o∈l,∀s∈o.secs,s.name.size≤maxLen∧Bn s.type∧Bn s.flags∧Bn s.align∧Bn s.ent∧Bn s.link){i k:Nat}{o:Az}{s:Ca}{p:PcD}(hi:l[i]?=some o)(hk:o.secs[k]?=some s)(hp:p∈piecesOf s):(mkN l D (i,k,s) p).bd:=by
 have hil:=(Ab.1 hi).1;have hkl:=(Ab.1 hk).1;have hql:=(hok o (Ad hi)).few.1;have hsG:=hs o (Ad hi) s (Ad hk);have hpf:=(Ey hsG.facts).2.2.1 p hp;have hpz:=hsG.facts.1;obtain⟨z0,z1,z2,z3,z4,z5⟩:=hbd o (Ad hi) s (Ad hk);refine⟨?_,?_,?_,z0,z1,z2,z3,z4,?_,Jel hok i (by omega) ((k:Int)+1),z5⟩
 ·show Bn (i:Int);unfold Bn;omega
 ·show Bn ((k:Int)+1);unfold Bn;omega
 ·show Bn p.at_;unfold Bn;omega
 ·show Bn p.size;unfold Bn;omega
theorem Jdh{l:List Az}{D:List (List Bool)}(hs:Gi l)(hok:∀o∈l,OkD o)(hlc:l.length≤1000){x:Cq}{t:Int × Int}(h:findB l D x=some t):Bn t.1∧Bn t.2:=by
 obtain⟨n,y,e1,e2,e3,e4⟩:=Ji3 h;have hn:=(Ab.1 e2).1;have hf:=Jkq (D:=D) hs hok hlc;obtain⟨a,k,j,o,s,p,hN⟩:=Jp4 e2;have hsG:=hs o (Ad hN.ho) s (Ad hN.hs);have hpf:=(Ey hsG.facts).2.2.1 p (Ad hN.hp);have hpz:=hsG.facts.1;have hy:y.size=p.size:=by rw[hN.hy];rfl
 unfold Bn;omega
theorem Jpz{l:List Az}{D:List (List Bool)}(hs:Gi l)(hok:∀o∈l,OkD o)(hlc:l.length≤1000)(hv:∀o∈l,∀y∈o.syms,Bn y.value){i:Nat}{r:Ea}(hr:r.bd):(Fz l D i r).1.bd:=by
 have hpl:=(Le (D:=D) (o:=i) (s:=r.sym) hok hv).1;have h0:Bn 0:=by unfold Bn;omega
 have h1:Bn (-1):=by unfold Bn;omega
 unfold Fz;split
 ·exact⟨h0,h0,h0,h0,h0⟩
 ·split
  ·exact⟨hr.1,hr.2.1,hr.2.2.2,h1,hpl⟩
  ·cases hf:findB l D (Ck l D i r.sym).1 with
   |none=>exact⟨h0,h0,h0,h0,h0⟩
   |some t=>
    obtain⟨t1,t2⟩:=Jdh hs hok hlc hf;exact⟨hr.1,hr.2.1,hr.2.2.2,t1,t2⟩
theorem Jox{w:World}{p:Option Addr}{l:List Az}(h:Bg 5 Cg w p l):∀o∈l,∀s∈o.secs,s.name.size≤maxLen∧Bn s.type∧Bn s.flags∧Bn s.align∧Bn s.ent∧Bn s.link:=fun o ho s hs=>by
 obtain⟨i,hi⟩:=Av ho;obtain⟨k,hk⟩:=Av hs;obtain⟨b,off,p0,p1,p2,p4,c0,c1,c2,c4,hpe,_,_,_,_,_,hsec,_⟩:=Du h hi;obtain⟨b2,off2,p7,p8,c7,c8,hpe2,_,_,_,_,_,_,_,_,_,_,_,z0,z1,z2,z3,z4,z5,_⟩:=Rz hsec hk;exact⟨z0,z1,z2,z3,z4,z5⟩
theorem Jck{w:World}{p:Option Addr}{l:List Az}(h:Bg 5 Cg w p l){D:List (List Bool)}(hs:Gi l)(hok:∀o∈l,OkD o)(hlc:l.length≤1000){i k:Nat}{o:Az}{s:Ca}(hi:l[i]?=some o)(hk:o.secs[k]?=some s):∀e∈Da l D (i,k,s),e.bd:=fun e he=>by
 obtain⟨b,off,p0,p1,p2,p4,c0,c1,c2,c4,hpe,_,_,_,_,_,hsec,_⟩:=Du h hi;obtain⟨b2,off2,p7,p8,c7,c8,hpe2,_,_,_,_,_,_,_,_,_,_,hd8,_⟩:=Rz hsec hk;unfold Da at he;rw[show Mk ((i,k,s):Sx).2.2=s.rels from Wu (hs o (Ad hi) s (Ad hk))]at he;obtain⟨r,hr,rfl⟩:=List.mem_map.1 he;exact Jpz hs hok hlc (Ns h) (Jg1 hd8.1 r hr)
end Go.Proofs.YteopgmieindojaaGreat
