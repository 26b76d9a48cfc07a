/- Parts of a proof. -/
import Derived.Test.YteopgmieindojaaGreatGX32
import Derived.Deep.DeepCutAuto
import Derived.Deep.CutBlock
import Derived.Test.YteopgmieindojaaGreatGX23
import Derived.Deep.RegionHeld3
set_option maxRecDepth 1000000
set_option maxHeartbeats 8000000
namespace Go.Proofs.YteopgmieindojaaGreat
open Go.RowKit
theorem Jaf(o:Az)(v0 v1 v2 v4:Value)(a:Int)(w:World)(hp:IsL 2 Ew w v2 o.groups)(hx:IsL 1 Cc w v4 o.sig)(hl:Ho o):
 Calls Tryz.prog 35 #[Gq v0 v1 v2 o.hasSig v4,.int .i64 a] w (Hq 106 true w.heap.size (groupPs a o.groups o.hasSig o.sig) w):=by
 obtain⟨i0,hi,hz0,hz1,hz2⟩:=info_parts Tryz.infoRefPart;have HI:=Aa hi;have H0:=Aa hz0;have H1:=Aa hz1;have H2:=Aa hz2;obtain⟨i1,gi,gz0,gz1,gz2⟩:=info_parts Tryz.infoU8;have GI:=Aa gi;have G0:=Aa gz0;have G1:=Aa gz1;have G2:=Aa gz2;have hb1:Below w.heap.size w (w.alloc (.cells #[v0,v1,v2,.bool o.hasSig,v4] 27)):=(Ag _ w).alloc (Af _) _;have hq:=hp.below Ew.keeps hb1;have hq4:=hx.below Cc.keeps hb1;obtain⟨p2,c2,rfl,q1,q2,_,hqh⟩:=hq;obtain⟨p4,c4,rfl,x1,x2,_,hxh⟩:=hq4;have a2:(w.alloc (.cells #[v0,v1,.slice p2 o.groups.length c2,.bool o.hasSig,.slice p4 o.sig.length c4] 27)).cell? ⟨w.heap.size,2,none⟩=some (.slice p2 o.groups.length c2):=by simp
 have a3:(w.alloc (.cells #[v0,v1,.slice p2 o.groups.length c2,.bool o.hasSig,.slice p4 o.sig.length c4] 27)).cell? ⟨w.heap.size,3,none⟩=some (.bool o.hasSig):=by simp
 have a4:(w.alloc (.cells #[v0,v1,.slice p2 o.groups.length c2,.bool o.hasSig,.slice p4 o.sig.length c4] 27)).cell? ⟨w.heap.size,4,none⟩=some (.slice p4 o.sig.length c4):=by simp
 have hgs:(w.alloc (.cells #[v0,v1,.slice p2 o.groups.length c2,.bool o.hasSig,.slice p4 o.sig.length c4] 27)).heap.size=w.heap.size+1:=by simp
 have hng:=hl.ngrp;have hnx:=hl.nsig;have HS:=Aa hl.grps;have HX:=Aa hl.sigs;have HQ:=Aa hqh;have HXH:=Aa hxh;have HB1:=Aa hb1;have hres:groupPs a o.groups o.hasSig o.sig=o.groups.map (Dq a)++bif o.hasSig then [Jv a o.sig]else []:=rfl
 generalize groupPs a o.groups o.hasSig o.sig=res at*;generalize hgl:o.groups.length=gl at*;generalize hxl:o.sig.length=xl at*;generalize o.hasSig=sg at*;have HGL:=Aa hgl;have HXL:=Aa hxl;have HRES:=Aa hres;clear hp hx hl hi hz0 hz1 hz2 gi gz0 gz1 gz2 hb1 hqh hxh hgl hxl q1 q2 x1 x2 hres;go_enter Tryz.func35,Tryz.ntmps35;go_upto_region 1 with fail
 generalize w.alloc (.cells #[v0,v1,.slice p2 gl c2,.bool sg,.slice p4 xl c4] 27)=W1 at*;have hgs2:w.heap.size < W1.heap.size:=by omega
 clear hgs;go_upto_block 0 with fail;go_cut [5] (fun r5 wr=>∃(pv:List PV)(pd:List Bk),pd=o.groups.map (Dq a)∧pd.length≤gl∧wr.ownsRow W1.heap.size 106 12 r5 pd.length (pvs true pv)∧Bf wr (fun b=>W1.heap.size≤b∧some b≠r5.ownBlock) pv pd∧Below W1.heap.size W1 wr)
 case first=>
  clear HRES HX HXH HXL;go_wp2_with fail
  go_loopw [5,6] (fun r5 r6 wr=>∃(k:Nat)(pv:List PV)(pd:List Bk),k≤gl∧r6= .int .i64 (k:Int)∧pd=(o.groups.take k).map (Dq a)∧pd.length≤k∧wr.ownsRow W1.heap.size 106 12 r5 pd.length (pvs true pv)∧Bf wr (fun b=>W1.heap.size≤b∧some b≠r5.ownBlock) pv pd∧Below W1.heap.size W1 wr) (fun _ r6 _=>gl - (intOf r6).toNat)
  case atStart=>exact⟨0, [], [],Ak _,rfl,rfl,Af _,Aq _ _ _ _,Bf.nil _ _,Ag _ _⟩
  case round=>
   obtain⟨k,pv,pd,hk,rfl,hpd,hpl,hown,hpa,hb⟩:=hrel;have HPD:=Aa hpd;have HPA:=Aa hpa;have z2:=Ax hb a2;clear hpd hpa;by_cases hlt:k < gl
   ·obtain⟨b,off,g,rfl,hgk,⟨hsy,_⟩,⟨vm,d1,hvm⟩⟩:=HQ.out.at_ (i:=k) (by rw[HGL.out];exact hlt);obtain⟨mp,mc,rfl,m1,m2,_,hmh⟩:=hvm;have e0:=Ax hb hsy;have e1:=Ax hb d1;have HMH:=Aa (hmh.below Cc.keeps hb);have hgm:=HS.out g (Ad hgk);have hml:=hgm.2.1;have hgn:(o.groups.take (k+1)).map (Dq a)=(o.groups.take k).map (Dq a)++ [Dq a g]:=by rw[List.take_add_one,hgk];simp
    have HGN:=Aa hgn;have HR:=Aa hgm.2.2;generalize hmn:g.members.length=ml at*;have HMN:=Aa hmn;have hJ:(k:Int) < (gl:Int):=by omega
    have k2:(0:Int)≤(k:Int):=by omega
    have k4:IntKind.i64.wrap ((k:Int)+1)=(k:Int)+1:=Al _ (by omega);clear hgk d1 hmh hgm hmn m1 m2 hsy hgn;generalize wr=wo at*;go_wp2_with fail
    go_loopw [7,8] (fun r7 r8 wx=>∃(j n:Nat),j≤ml∧r8= .int .i64 (j:Int)∧n=4+4*j∧wx.ownsRow wo.heap.size 5 1 r7 n ((Fb (g.members.take j)).map u8v)∧Below wo.heap.size wo wx) (fun _ r8 _=>ml - (intOf r8).toNat)
    case atStart=>exact⟨0,4,Ak _,rfl,rfl,World.ownsRow_lit wo #[u8v 1,u8v 0,u8v 0,u8v 0] 4 (Af _) (by unfold maxLen;omega) rfl,(Ag _ wo).alloc (Af _) _⟩
    case round=>
     obtain⟨j,n,hj,rfl,hn,hob,hbx⟩:=hrel;have HN:=Aa hn;have y2:=Ax hbx z2;have y0:=Ax hbx e0;have y1:=Ax hbx e1;by_cases hjl:j < ml
     ·obtain⟨b2,off2,m,rfl,hmj,x0,_⟩:=HMH.out.at_ (i:=j) (by rw[HMN.out];exact hjl);have d0:=Ax hbx x0;rw[Nat.mul_one]at d0;have HC:Hid (∀W,Calls Tryz.prog 81 #[.int .u64 (IntKind.u64.wrap m),.int .i64 4] W (Fe (Qn m) W)):=Aa fun W=>by
       rw[Jm];exact Yg (u64n m) 4 W (Vg m) rfl
      have HST:Hid (Fb (g.members.take (j+1))=Fb (g.members.take j)++Qn m):=Aa (by rw[List.take_add_one,hmj];exact Uo _ _);have hJ1:(j:Int) < (ml:Int):=by omega
      have hJ2:(0:Int)≤(j:Int):=by omega
      have hmB:(Qn m).length=4:=Dp _ _;have HMB:=Aa hmB;clear hmj x0 hn hmB;go_wp2_with fail
      refine(HC.out _).mono ?_;rintro e w2 ⟨v2',rfl,hown2,hbb2⟩;rw[HMB.out]at hown2;have hob2:=Ed hob hbb2;have hbx2:Below wo.heap.size wo w2:=hbx.trans (hbb2.mono hbx.size);obtain⟨p2,cc2,rfl,g1,g2,g3,g4⟩:=Has.of_owns hown2;have hpn:=Fv hown2;have HG4:=Aa g4;have HG3:=Aa g3;have hn80:n≤2000:=by have:=HN.out;omega
      clear hown2 hbb2 hob hbx d0 g4 g3 y0 y1 y2;go_wp2_with (at_builtin;refine Cd _ rfl (.tmp 30) (.tmp 41) 31 rfl wo.heap.size 5 i1 Tryz.underlying31 GI.out G0.out G1.out G2.out _ n _ rfl hob2 p2 4 cc2 (Qn m) rfl HG4.out HG3.out hpn (by omega) hbx2.size ?_)
      intro v3 w3 hob3 hg3 _;have hbx3:Below wo.heap.size wo w3:=hbx2.grown hg3 hbx2.size (fun g hg=>(hob2.lt g hg).1);rw[←List.map_append,←HST.out]at hob3;clear hob2 hbx2 hg3;go_wp2_with fail
      go_roundw
      case rel=>exact⟨j+1,n+4,hjl,by go_num,by have:=HN.out;omega,hob3,hbx3⟩
      case measure=>simp[intOf];omega
     ·obtain rfl:j=ml:=by omega
      have hobd:wr.ownsRow wo.heap.size 5 1 u7 n ((Fb g.members).map u8v):=by
       rw[List.take_of_length_le (by rw[HMN.out];exact Af _)]at hob;exact hob
      have hown2:=Bd hown hbx;have hpa2:Hid (Bf wr (fun b=>W1.heap.size≤b∧some b≠u5.ownBlock) pv pd):=Aa (HPA.out.below hbx);have hb2:Below W1.heap.size W1 wr:=hb.trans (hbx.mono hb.size);have hbs:=hb.size;have hJ1:¬(j:Int) < (j:Int):=by omega
      have hu5:=fun g hg=>(hown.lt g hg).2;obtain⟨p7,c7,rfl,_,_,_,_⟩:=Has.of_owns hobd
      have hsl:Bf wr (fun b=>W1.heap.size≤b∧some b≠u5.ownBlock) [⟨Hu a g.sym,Li,(.slice p7 n c7)⟩] [Dq a g]:=Bf.one (SlB.of_owns hobd fun b hb=>by
       have h1:=(hobd.lt b hb).1
       exact⟨by omega,fun e=>by have:=hu5 b e.symm;omega⟩)
      have HSL:=Aa hsl;have hE:Hid ((o.groups.take (k+1)).map (Dq a)=pd++ [Dq a g]):=Aa (by rw[HGN.out,←HPD.out]);have h1c:∀u∈PV.cells true ⟨Hu a g.sym,Li,(.slice p7 n c7)⟩,u.oneCell'=true:=fun u hu=>(hsl.oneCell (q:=true)) u (by simpa[pvs]using hu);have H1C:=Aa h1c;have hbz:=hb2.size;clear hob hown HPA hb e0 e1 z2 hn hsl hu5 h1c hobd;go_wp2_with (at_builtin;refine wpList_append_own_at _ rfl (.tmp 43) (.tmp 54) 107 rfl W1.heap.size 106 i0 _ 12 120 Tryz.underlying107 HI.out H0.out H1.out H2.out rfl (by decide) _ pd.length _ rfl (hown2.alloc _) ⟨wr.heap.size,0,none⟩ 1 1 (PV.cells true ⟨Hu a g.sym,Li,(.slice p7 n c7)⟩) rfl rfl (Fi wr _ _) H1C.out (by unfold maxLen;omega) (by omega) (by simp;omega) ?_)
      intro v1 w4 hown4 hg4 _ hat4;have HP:=Aa (Jf hpa2.out HSL.out hown4 hg4 hat4);have hb4:Below W1.heap.size W1 w4:=(hb2.alloc hb2.size _).grown hg4 (by simp;omega) (fun g hg=>(hown2.lt g hg).1);clear hown4 hg4 hat4 hown2 hpa2 HSL hb2;go_wp2_with fail
      go_roundw
      case rel=>exact⟨k+1,_,_,hlt,by go_num,hE.out.symm,by simp;omega,HP.out.1,HP.out.2,hb4⟩
      case measure=>simp[intOf];omega
   ·obtain rfl:k=gl:=by omega
    have hJ:¬(k:Int) < (k:Int):=by omega
    have hE:Hid (pd=o.groups.map (Dq a)):=Aa (by rw[HPD.out,List.take_of_length_le (by rw[HGL.out];exact Af _)]);go_wp2_with fail
    go_meet;exact⟨pv,pd,hE.out,by omega,hown,HPA.out,hb⟩
 case rest=>
  obtain⟨pv,pd,hpd,hpl,hown,hpa,hb⟩:=hcut;have HPD:=Aa hpd;have HPA:=Aa hpa;have z3:=Ax hb a3;have z4:=Ax hb a4;clear hpd hpa HQ HS HGL;generalize wc=wo at*;cases sg with
  |false=>
   have hE:Hid (res=pd):=Aa (by rw[HRES.out,←HPD.out];simp);go_wp2_with fail
   go_ret;refine⟨_,pv,rfl,?_,?_,HB1.out.trans (hb.mono (by omega))⟩
   ·rw[hE.out];exact Cm hown (by omega)
   ·rw[hE.out];exact HPA.out.weaken fun b hb h=>⟨by omega,h.2⟩
  |true=>
   have hE:Hid (res=pd++ [Jv a o.sig]):=Aa (by rw[HRES.out,←HPD.out];simp);clear HRES;go_wp2_with fail
   go_loopw [9,10] (fun r9 r10 wx=>∃(j n:Nat),j≤xl∧r10= .int .i64 (j:Int)∧n≤5*j∧wx.ownsRow wo.heap.size 5 1 r9 n ((Jk (o.sig.take j)).map u8v)∧Below wo.heap.size wo wx) (fun _ r10 _=>xl - (intOf r10).toNat)
   case atStart=>exact⟨0,0,Ak _,rfl,Af _,Aq _ _ _ _,Ag _ wo⟩
   case round=>
    obtain⟨j,n,hj,rfl,hn,hob,hbx⟩:=hrel;have y4:=Ax hbx z4;by_cases hjl:j < xl
    ·obtain⟨b2,off2,m,rfl,hmj,x0,_⟩:=HXH.out.at_ (i:=j) (by rw[HXL.out];exact hjl);have x0:=Ax hb x0;have d0:=Ax hbx x0;rw[Nat.mul_one]at d0;have hfm:=(Bv m).1 (HX.out m (Ad hmj));have HC:Hid (∀W,Calls Tryz.prog 82 #[.int .i64 m] W (Fe (ulebB 5 m.toNat) W)):=Aa fun W=>by
      have:=Jf0 5 m.toNat W (by omega) (by omega) (by omega) (by omega)
      rwa [Int.toNat_of_nonneg hfm.1]at this
     have HST:Hid (Jk (o.sig.take (j+1))=Jk (o.sig.take j)++ulebB 5 m.toNat):=Aa (by rw[List.take_add_one,hmj];exact Xi _ _);have hJ1:(j:Int) < (xl:Int):=by omega
     have hJ2:(0:Int)≤(j:Int):=by omega
     have hul:=Lk 5 m.toNat;clear hmj x0 hfm;generalize ulebB 5 m.toNat=ub at*;generalize hubl:ub.length=ul at*;have HUL:=Aa hubl;clear hubl;go_wp2_with fail
     refine(HC.out _).mono ?_;rintro e w2 ⟨v2',rfl,hown2,hbb2⟩;rw[HUL.out]at hown2;have hob2:=Ed hob hbb2;have hbx2:Below wo.heap.size wo w2:=hbx.trans (hbb2.mono hbx.size);obtain⟨p2,cc2,rfl,g1,g2,g3,g4⟩:=Has.of_owns hown2;have hpn:=Fv hown2;have HG4:=Aa g4;have HG3:=Aa g3;clear hown2 hbb2 hob hbx d0 g4 g3 y4;go_wp2_with (at_builtin;refine Cd _ rfl (.tmp 65) (.tmp 71) 31 rfl wo.heap.size 5 i1 Tryz.underlying31 GI.out G0.out G1.out G2.out _ n _ rfl hob2 p2 ul cc2 ub rfl HG4.out HG3.out hpn (by omega) hbx2.size ?_)
     intro v3 w3 hob3 hg3 _;have hbx3:Below wo.heap.size wo w3:=hbx2.grown hg3 hbx2.size (fun g hg=>(hob2.lt g hg).1);rw[←List.map_append,←HST.out]at hob3;clear hob2 hbx2 hg3;go_wp2_with fail
     go_roundw
     case rel=>exact⟨j+1,n+ul,hjl,by go_num,by omega,hob3,hbx3⟩
     case measure=>simp[intOf];omega
    ·obtain rfl:j=xl:=by omega
     have hobd:wr.ownsRow wo.heap.size 5 1 u9 n ((Jk o.sig).map u8v):=by
      rw[List.take_of_length_le (by rw[HXL.out];exact Af _)]at hob;exact hob
     have hown2:=Bd hown hbx;have hpa2:=Aa (HPA.out.below hbx);have hb2:Below W1.heap.size W1 wr:=hb.trans (hbx.mono hb.size);have hbs:=hb.size;have hJ1:¬(j:Int) < (j:Int):=by omega
     have hu5:=fun g hg=>(hown.lt g hg).2;obtain⟨p7,c7,rfl,_,_,_,_⟩:=Has.of_owns hobd
     have hsl:Bf wr (fun b=>W1.heap.size≤b∧some b≠u5.ownBlock) [⟨Lb a,Qg,(.slice p7 n c7)⟩] [Jv a o.sig]:=Bf.one (SlB.of_owns hobd fun b hb=>by
      have h1:=(hobd.lt b hb).1
      exact⟨by omega,fun e=>by have:=hu5 b e.symm;omega⟩)
     have HSL:=Aa hsl;have h1c:∀u∈PV.cells true ⟨Lb a,Qg,(.slice p7 n c7)⟩,u.oneCell'=true:=fun u hu=>(hsl.oneCell (q:=true)) u (by simpa[pvs]using hu);have H1C:=Aa h1c;have hbz:=hb2.size;clear hob hown HPA hb z3 z4 hn hsl hu5 h1c hobd;go_wp2_with (at_builtin;refine wpList_append_own_at _ rfl (.tmp 73) (.tmp 78) 107 rfl W1.heap.size 106 i0 _ 12 120 Tryz.underlying107 HI.out H0.out H1.out H2.out rfl (by decide) _ pd.length _ rfl (hown2.alloc _) ⟨wr.heap.size,0,none⟩ 1 1 (PV.cells true ⟨Lb a,Qg,(.slice p7 n c7)⟩) rfl rfl (Fi wr _ _) H1C.out (by unfold maxLen;omega) (by omega) (by simp;omega) ?_)
     intro v1 w4 hown4 hg4 _ hat4;have HP:=Aa (Jf hpa2.out HSL.out hown4 hg4 hat4);have hb4:Below W1.heap.size W1 w4:=(hb2.alloc hb2.size _).grown hg4 (by simp;omega) (fun g hg=>(hown2.lt g hg).1);clear hown4 hg4 hat4 hown2 hpa2 HSL hb2;go_wp2_with fail
     go_ret;refine⟨v1,pv++ [⟨Lb a,Qg,(.slice p7 n c7)⟩],rfl,?_,?_,HB1.out.trans (hb4.mono (by omega))⟩
     ·rw[hE.out];exact Cm HP.out.1 (by omega)
     ·rw[hE.out];exact HP.out.2.weaken fun b hb h=>⟨by omega,h.2⟩
theorem Jc3(o:Az)(v0 v1 v2 v4:Value)(a:Int)(w:World)(ha:0≤a∧a≤1000)(hp:IsL 6 Ie w v1 o.syms)(hl:Ho o):
 Calls Tryz.prog 36 #[Gq v0 v1 v2 o.hasSig v4,.int .i64 a] w (Hq 106 true w.heap.size (symPs a o.syms) w):=by
 obtain⟨i0,hi,hz0,hz1,hz2⟩:=info_parts Tryz.infoStr;have HI:=Aa hi;have H0:=Aa hz0;have H1:=Aa hz1;have H2:=Aa hz2;obtain⟨i1,gi,gz0,gz1,gz2⟩:=info_parts Tryz.infoU8;have GI:=Aa gi;have G0:=Aa gz0;have G1:=Aa gz1;have G2:=Aa gz2;have hb1:Below w.heap.size w (w.alloc (.cells #[v0,v1,v2,.bool o.hasSig,v4] 27)):=(Ag _ w).alloc (Af _) _;have hq:=hp.below Ie.keeps hb1;obtain⟨p1,c1,rfl,q1,q2,_,hqh⟩:=hq;have a1:(w.alloc (.cells #[v0,.slice p1 o.syms.length c1,v2,.bool o.hasSig,v4] 27)).cell? ⟨w.heap.size,1,none⟩=some (.slice p1 o.syms.length c1):=by simp
 have hgs:(w.alloc (.cells #[v0,.slice p1 o.syms.length c1,v2,.bool o.hasSig,v4] 27)).heap.size=w.heap.size+1:=by simp
 have hny:=hl.nsym;have HS:=Aa hl.syms;have HQ:=Aa hqh;have HB1:=Aa hb1;have hres:symPs a o.syms= [⟨Gu a (Ei o.syms),Gc,Fm (Dm o.syms) o.syms⟩,⟨Dc,Gd,(Cj (Dm o.syms)).tb⟩]:=rfl;generalize symPs a o.syms=res at*;generalize hyl:o.syms.length=yl at*;generalize o.hasSig=sg at*;have HYL:=Aa hyl;have HRES:=Aa hres;have ka:IntKind.i64.wrap (a+1)=a+1:=Al _ (by omega);clear hp hl hi hz0 hz1 hz2 gi gz0 gz1 gz2 hb1 hqh hyl q1 q2 hres;go_enter Tryz.func36,Tryz.ntmps36;go_upto_region 1 with fail
 generalize w.alloc (.cells #[v0,.slice p1 yl c1,v2,.bool sg,v4] 27)=W1 at*;have hgs2:w.heap.size < W1.heap.size:=by omega
 clear hgs;go_upto_block 0 with fail;go_cut [5] (fun r5 wr=>wr.ownsRow W1.heap.size 9 1 r5 yl ((Hg o.syms).map Value.string)∧Below W1.heap.size W1 wr)
 case first=>
  clear HRES;go_wp2_with fail
  go_loopw [5,6] (fun r5 r6 wr=>∃(k:Nat),k≤yl∧r6= .int .i64 (k:Int)∧wr.ownsRow W1.heap.size 9 1 r5 k ((Hg (o.syms.take k)).map Value.string)∧Below W1.heap.size W1 wr) (fun _ r6 _=>yl - (intOf r6).toNat)
  case atStart=>exact⟨0,Ak _,rfl,Aq _ _ _ _,Ag _ _⟩
  case round=>
   obtain⟨k,hk,rfl,hown,hb⟩:=hrel;have z1:=Ax hb a1;by_cases hlt:k < yl
   ·obtain⟨b,off,s,rfl,hsk,⟨hnm,_⟩,_⟩:=HQ.out.at_ (i:=k) (by rw[HYL.out];exact hlt);have e0:=Ax hb hnm;have hst:Hg (o.syms.take (k+1))=Hg (o.syms.take k)++ [s.name]:=by unfold Hg;rw[List.take_add_one,hsk];simp
    have HST:=Aa hst;have hJ:(k:Int) < (yl:Int):=by omega
    have k2:(0:Int)≤(k:Int):=by omega
    have hbs:=hb.size;clear hsk hnm hst;go_wp2_with (at_builtin;refine wpList_append_own _ rfl (.tmp 23) (.tmp 30) 109 rfl W1.heap.size 9 i0 _ 1 16 Tryz.underlying109 HI.out H0.out H1.out H2.out rfl (by decide) _ k _ rfl (hown.alloc _) ⟨wr.heap.size,0,none⟩ 1 1 [.string s.name] rfl rfl (cell_one_new wr _ _) (Pw _) (by unfold maxLen;omega) (by omega) (by simp;omega) ?_)
    intro v3 w4 hown4 hg4 _;have hb4:Below W1.heap.size W1 w4:=(hb.alloc hb.size _).grown hg4 (by simp;omega) (fun g hg=>(hown.lt g hg).1);rw[Sm,←HST.out]at hown4;clear hown hg4 hb;go_wp2_with fail
    go_roundw
    case rel=>exact⟨k+1,hlt,by go_num,hown4,hb4⟩
    case measure=>simp[intOf];omega
   ·obtain rfl:k=yl:=by omega
    have hJ:¬(k:Int) < (k:Int):=by omega
    have hE:Hid (o.syms.take k=o.syms):=Aa (List.take_of_length_le (by rw[HYL.out];exact Af _));rw[hE.out]at hown;go_wp2_with fail
    go_meet;exact⟨hown,hb⟩
 case rest=>
  obtain⟨hown,hb⟩:=hcut;have HPB:=Aa (Uf o.syms (by rw[HYL.out];omega) fun s hs=>(HS.out s hs).1);obtain⟨p5,c5,rfl,n1,n2,n3,hns⟩:=Rl.of_owns hown;have hnm:Dm o.syms=(Hg o.syms).map lst:=by unfold Dm Hg;simp
  have hmb:∀s∈Hg o.syms,mayB (lst s)=true:=fun s hs=>by
   obtain⟨y,hy,rfl⟩:=List.mem_map.1 hs;exact(HS.out y hy).1
  have HMK:=Aa (Ux p5 yl c5 _ _ hns n3 (by omega) hmb);rw[←hnm]at HMK;have hbw1:Below w.heap.size w W1:=HB1.out;clear hown hns hmb hnm n1 n2 n3;generalize hnsd:Dm o.syms=ns at*;generalize wc=wo at*;have HNS:=Aa hnsd;clear hnsd;have z1:=Ax hb a1;have HW:Hid (Below W1.heap.size W1 wo):=Aa hb;have hbs:=hb.size;clear hb a1;go_wp2_with fail
  refine HMK.out.mono ?_;rintro e wm ⟨t1,t2,rfl,ht,hpl,hbm⟩;have y1:=Ax hbm z1;have hbms:=hbm.size;have hpll:(placesOf ns).length=yl:=by rw[Gb,←HNS.out];unfold Dm;rw[List.length_map];exact HYL.out
  rw[hpll]at hpl;clear hpll z1;go_wp2_with fail
  go_loopw [9,10,11] (fun r9 r10 r11 wx=>∃(k n l:Nat),k≤yl∧r11= .int .i64 (k:Int)∧r10= .int .i64 (l:Int)∧l=Ei (o.syms.take k)∧l≤k∧n=24*k∧wx.ownsRow wm.heap.size 5 1 r9 n ((Fm ns (o.syms.take k)).map u8v)∧Below wm.heap.size wm wx) (fun _ _ r11 _=>yl - (intOf r11).toNat)
  case atStart=>exact⟨0,0,0,Ak _,rfl,rfl,rfl,Af _,rfl,Aq _ _ _ _,Ag _ _⟩
  case round=>
   obtain⟨k,n,l,hk,rfl,rfl,hll,hlk,hn,hob,hbx⟩:=hrel;have HLL:=Aa hll;have HN:=Aa hn;have x1:=Ax hbx y1;by_cases hlt:k < yl
   ·obtain⟨b,off,s,rfl,hsk,⟨d0,_⟩,⟨d1,hb1b⟩,⟨d2,_⟩,⟨d3,hb3b⟩,⟨d4,_⟩,⟨d5,_⟩⟩:=HQ.out.at_ (i:=k) (by rw[HYL.out];exact hlt);have hw1x:Below W1.heap.size W1 wr:=HW.out.trans ((hbm.trans (hbx.mono hbms)).mono hbs);have e0:=Ax hw1x d0;have e1:=Ax hw1x d1;have e2:=Ax hw1x d2;have e3:=Ax hw1x d3;have e4:=Ax hw1x d4;have e5:=Ax hw1x d5;obtain⟨g,gc,cur,rfl,_,_,_,hgc,hgm,_,_⟩:=Oo hpl (by omega);have hpx:=Bd hpl hbx;have hsy:=HS.out s (Ad hsk);have hpc:wr.cell? ⟨g,k,none⟩=some (.int .i64 (placeOf ns (lst s.name):Int)):=by
     rw[hpx.cellAt k (by omega)];have hns:ns[k]?=some (lst s.name):=by rw[←HNS.out];unfold Dm;rw[List.getElem?_map,hsk];rfl
     simp only[Hh,placesOf,List.map_map,List.getElem?_map,hns];rfl
    have hpb:placeOf ns (lst s.name)≤2147483647:=HPB.out s (Ad hsk);have hmay:(Ko (placeOf ns (lst s.name)) s).may:=by
     obtain⟨m1,m2,m3,m4,m5,m6,m7,m8,m9⟩:=hsy;refine⟨(Bv _).2 ⟨by unfold Ko;simp,by unfold Ko;simp;omega⟩,m2,m3,m4,m5,m6,m7,?_,?_⟩<;>(show _;unfold Ko symIdx;simp only;split<;>omega)
    have HC:=Aa fun W=>Zu (Ko (placeOf ns (lst s.name)) s) W hmay;have hst:Fm ns (o.syms.take (k+1))=Fm ns (o.syms.take k)++entB (Ko (placeOf ns (lst s.name)) s):=by rw[List.take_add_one,hsk];exact Vr _ _ _
    have HST:=Aa hst;have hlo:Ei (o.syms.take (k+1))=Ei (o.syms.take k)+(bif s.bind==0 then 1 else 0):=by rw[List.take_add_one,hsk];exact Tj _ _
    have HLO:=Aa hlo;have hJ:(k:Int) < (yl:Int):=by omega
    have k2:(0:Int)≤(k:Int):=by omega
    clear hsk d0 d1 d2 d3 d4 d5 hw1x hpx hsy hmay hst hlo hll hn;generalize placeOf ns (lst s.name)=pl at*;go_upto_region 13 with fail
    have hba:Below wr.heap.size wr (wr.alloc (.cells #[.string s.name,.int .i64 s.bind,.int .i64 s.type,.int .i64 s.sec,.int .i64 s.value,.int .i64 s.size] 98)):=(Ag _ wr).alloc (Af _) _;have hpa:=Ax hba hpc;have hha:=Dd wr (.cells #[.string s.name,.int .i64 s.bind,.int .i64 s.type,.int .i64 s.sec,.int .i64 s.value,.int .i64 s.size] 98);have hsz:(wr.alloc (.cells #[.string s.name,.int .i64 s.bind,.int .i64 s.type,.int .i64 s.sec,.int .i64 s.value,.int .i64 s.size] 98)).heap.size=wr.heap.size+1:=by simp
    generalize wr.alloc (.cells #[.string s.name,.int .i64 s.bind,.int .i64 s.type,.int .i64 s.sec,.int .i64 s.value,.int .i64 s.size] 98)=ws at*;obtain⟨s0,s1,s2,s3,s4,s5⟩:=Oj _ _ _ _ _ _ _ _ _ hha;go_cut [13] (fun s13 wx=>s13= .pointer (some ⟨wr.heap.size+1,0,none⟩)∧wx=ws.drew.alloc (.cells #[.int .i64 (pl:Int),.int .i64 s.bind,.int .i64 s.type,.int .i64 s.sec,.int .i64 s.value,.int .i64 s.size] 173))
    case first=>
     clear x1 hpc e0 e1 e2 e3 e4 e5 hba hb1b hb3b;go_region_held3 (fun W=>W.cell? ⟨g,k,none⟩=some (.int .i64 (pl:Int))∧W.cell? ⟨wr.heap.size,1,none⟩=some (.int .i64 s.bind)∧W.cell? ⟨wr.heap.size,2,none⟩=some (.int .i64 s.type)∧W.cell? ⟨wr.heap.size,3,none⟩=some (.int .i64 s.sec)∧W.cell? ⟨wr.heap.size,4,none⟩=some (.int .i64 s.value)∧W.cell? ⟨wr.heap.size,5,none⟩=some (.int .i64 s.size)) (first|go_keep|exact⟨hpa,s1,s2,s3,s4,s5⟩|fail) (fail)
     go_wp2_with fail
     go_meet;exact⟨rfl,rfl⟩
    case rest=>
     obtain⟨rfl,rfl⟩:=hcut;have hbe:Below ws.heap.size ws (ws.drew.alloc (.cells #[.int .i64 (pl:Int),.int .i64 s.bind,.int .i64 s.type,.int .i64 s.sec,.int .i64 s.value,.int .i64 s.size] 173)):=Xm ws _;have hwe:=hba.trans (hbe.mono (by omega));have t3:=Ax hbe s3;have t1:=Ax hbe s1;have hhe:=Dd ws.drew (.cells #[.int .i64 (pl:Int),.int .i64 s.bind,.int .i64 s.type,.int .i64 s.sec,.int .i64 s.value,.int .i64 s.size] 173);rw[show ws.drew.heap.size=wr.heap.size+1 from hsz]at hhe;generalize (ws.drew.alloc (.cells #[.int .i64 (pl:Int),.int .i64 s.bind,.int .i64 s.type,.int .i64 s.sec,.int .i64 s.value,.int .i64 s.size] 173))=we at*;clear s0 s1 s2 s3 s4 s5 hha hpa hba hbe hsz e0 e1 e2 e3 e4 e5 x1 hpc;go_upto_if 66 with fail;go_cut [] (fun wx=>Below wr.heap.size wr wx∧wx.heap[wr.heap.size+1]?=some (.cells #[.int .i64 (pl:Int),.int .i64 s.bind,.int .i64 s.type,.int .i64 (symIdx s.sec),.int .i64 s.value,.int .i64 s.size] 173 (0,0))∧wx.cell? ⟨wr.heap.size,1,none⟩=some (.int .i64 s.bind))
     case first=>
      have hfz:=Ap _ _ 3 _ _ hhe;by_cases hm1:s.sec= -1
      ·have hid:Hid (symIdx s.sec=65521):=Aa (Jhh hm1);have hcd:(s.sec== -1)=true:=by simp[hm1]
       have hstep:=An we (wr.heap.size+1) 3 _ _ (.int .i64 65521) hhe;have HSTP:=Aa hstep;have c3:=(Am _ _ 3 _ _ (0,0) hhe)
       clear hm1 hstep;go_wp2_with fail
       go_meet;rw[hid.out];refine⟨hwe.setCell (by simp) _,HSTP.out,?_⟩;rw[World.cell?_setCell_far _ _ _ _ (by simp)];exact t1
      ·have hid:Hid (symIdx s.sec=s.sec):=Aa (Jjy hm1);have hcd:(s.sec== -1)=false:=by simp[hm1]
       clear hm1;go_wp2_with fail
       go_meet;rw[hid.out];exact⟨hwe,hhe,t1⟩
     case rest=>
      obtain⟨hwx,hhx,u1⟩:=hcut;clear hwe hhe t1 t3;generalize wc=we2 at*;obtain⟨f0,f1,f2,f3,f4,f5⟩:=Oj _ _ _ _ _ _ _ _ _ hhx;have hlk2:l+1≤1000:=by omega
      clear hhx;go_upto_if 70 with fail;go_cut [10] (fun s10 wx=>∃l2:Nat,s10= .int .i64 (l2:Int)∧l2=Ei (o.syms.take (k+1))∧l2≤k+1∧we2=wx)
      case first=>
       cases hbd:(s.bind==0)with
       |true=>
        have hE:Hid (l+1=Ei (o.syms.take (k+1))):=Aa (by rw[HLO.out,hbd,←HLL.out];rfl);go_wp2_with fail
        go_meet;exact⟨l+1,by go_num,hE.out,by omega,rfl⟩
       |false=>
        have hE:Hid (l=Ei (o.syms.take (k+1))):=Aa (by rw[HLO.out,hbd,←HLL.out];rfl);go_wp2_with fail
        go_meet;exact⟨l,rfl,hE.out,by omega,rfl⟩
      case rest=>
       obtain⟨l2,rfl,hl2,hl2k,rfl⟩:=hcut;have HL2:=Aa hl2;clear hl2 HLO u1;go_wp2_with fail
       refine(HC.out _).mono ?_;rintro e w2 ⟨v2',rfl,hown2,hbb2⟩;rw[Rp]at hown2;have hobe:=Bd hob hwx;have hob2:=Ed hobe hbb2;have hbx2:Below wm.heap.size wm w2:=(hbx.trans (hwx.mono hbx.size)).trans (hbb2.mono (by have:=hbx.size;have:=hwx.size;omega));obtain⟨p2,cc2,rfl,g1,g2,g3,g4⟩:=Has.of_owns hown2;have hpn:=Fv hown2;have HG4:=Aa g4;have HG3:=Aa g3;have hn80:n≤5000:=by have:=HN.out;omega
       clear hown2 hbb2 hob hobe hwx hbx g4 g3 f0 f1 f2 f3 f4 f5;go_wp2_with (at_builtin;refine Cd _ rfl (.tmp 73) (.tmp 75) 31 rfl wm.heap.size 5 i1 Tryz.underlying31 GI.out G0.out G1.out G2.out _ n _ rfl hob2 p2 24 cc2 (entB (Ko pl s)) rfl HG4.out HG3.out hpn (by omega) hbx2.size ?_)
       intro v3 w3 hob3 hg3 _;have hbx3:Below wm.heap.size wm w3:=hbx2.grown hg3 hbx2.size (fun g hg=>(hob2.lt g hg).1);rw[←List.map_append,←HST.out]at hob3;clear hob2 hbx2 hg3;go_wp2_with fail
       go_roundw
       case rel=>exact⟨k+1,n+24,l2,hlt,by go_num,rfl,HL2.out,hl2k,by have:=HN.out;omega,hob3,hbx3⟩
       case measure=>simp[intOf];omega
   ·obtain rfl:k=yl:=by omega
    have hJ:¬(k:Int) < (k:Int):=by omega
    have hE:Hid (o.syms.take k=o.syms):=Aa (List.take_of_length_le (by rw[HYL.out];exact Af _));rw[hE.out]at hob;have hLo:Hid (l=Ei o.syms):=Aa (by rw[hll,hE.out]);have htx:=Ed ht hbx;obtain⟨p9,c9,rfl,_,_,_,_⟩:=Has.of_owns hob;obtain⟨p7,c7,rfl,_,_,_,_⟩:=Has.of_owns htx;have hbwr:Below w.heap.size w wr:=hbw1.trans ((HW.out.trans ((hbm.trans (hbx.mono hbms)).mono hbs)).mono (by omega));have h9:=fun b hb=>(hob.lt b hb)
    have h7:=fun b hb=>(htx.lt b hb)
    have hpt:Bf wr (fun b=>w.heap.size≤b∧b < wr.heap.size) ([⟨Gu a l,Gc,.slice p9 n c9⟩]++ [⟨Dc,Gd,.slice p7 (Cj ns).tb.length c7⟩]) ([⟨Gu a l,Gc,Fm ns o.syms⟩]++ [⟨Dc,Gd,(Cj ns).tb⟩]):=
     (Bf.one (SlB.of_owns hob fun b hb=>⟨by have:=(h9 b hb).1;omega,(h9 b hb).2⟩)).append (Bf.one (SlB.of_owns htx fun b hb=>⟨by have:=(h7 b hb).1;omega,(h7 b hb).2⟩))
    have HPT:=Aa hpt;have hrs:Hid (res= [⟨Gu a l,Gc,Fm ns o.syms⟩]++ [⟨Dc,Gd,(Cj ns).tb⟩]):=Aa (by rw[HRES.out,hLo.out];rfl);have hbws:=hbwr.size;clear hll hn hE hpt h9 h7 hob htx;generalize (Cj ns).tb.length=tl at*;go_wp2_with fail
    go_ret;refine⟨_, [⟨Gu a l,Gc,.slice p9 n c9⟩]++ [⟨Dc,Gd,.slice p7 tl c7⟩],rfl,?_,?_,?_⟩
    ·rw[hrs.out];exact(Tx wr _ _ _ _ _ hbws true ([⟨Gu a l,Gc,.slice p9 n c9⟩]++ [⟨Dc,Gd,.slice p7 tl c7⟩]) rfl rfl).1
    ·rw[hrs.out];show Bf _ (fun b=>w.heap.size≤b∧some b≠(Value.slice (some ⟨wr.heap.size+1+1,0,none⟩) 2 2).ownBlock) _ _;refine Bf.weaken (K:=fun b=>w.heap.size≤b∧b < wr.heap.size) (HPT.out.below (Tx wr _ _ _ 106 _ hbws true ([⟨Gu a l,Gc,.slice p9 n c9⟩]++ [⟨Dc,Gd,.slice p7 tl c7⟩]) rfl rfl).2) ?_;intro b _ h;refine⟨h.1,fun he=>?_⟩;have he:b=wr.heap.size+1+1:=Option.some.inj he;omega
    ·exact hbwr.trans ((Tx wr _ _ _ 106 _ hbws true ([⟨Gu a l,Gc,.slice p9 n c9⟩]++ [⟨Dc,Gd,.slice p7 tl c7⟩]) rfl rfl).2.mono hbws)
end Go.Proofs.YteopgmieindojaaGreat
