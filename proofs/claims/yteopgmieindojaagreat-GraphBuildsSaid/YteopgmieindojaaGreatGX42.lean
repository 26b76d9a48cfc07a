/- Parts of a proof. -/
import Derived.Test.YteopgmieindojaaGreatGX41
import Derived.Test.YteopgmieindojaaGreatGX31
import Derived.Test.YteopgmieindojaaGreatGX22
import Derived.Test.YteopgmieindojaaGreatGX16
import Derived.Test.YteopgmieindojaaGreatGX23
import Derived.Test.YteopgmieindojaaGreatGX32
import Derived.Test.YteopgmieindojaaGreatGX35
import Derived.Test.YteopgmieindojaaGreatGX04
import Derived.Test.YteopgmieindojaaGreatGX21
set_option maxRecDepth 1000000
set_option maxHeartbeats 8000000
namespace Go.Proofs.YteopgmieindojaaGreat
open Go.RowKit
theorem Jfl(w:World)(T:TypeId)(v1 v2 v3:Value)(l1 l2 l3:List UInt8)(b1 b2 b3 n1 n2 n3:Nat)(h1:w.ownsRow b1 5 1 v1 n1 (l1.map u8v))(h2:w.ownsRow b2 5 1 v2 n2 (l2.map u8v))(h3:w.ownsRow b3 5 1 v3 n3 (l3.map u8v)):
 Jce (w.alloc (.cells #[v1,v2,v3] T)) (some ⟨w.heap.size,0,none⟩) [l1,l2,l3]:=fun i l hl=>by
 have hn:=Dd w (.cells #[v1,v2,v3] T);have hb:Below w.heap.size w (w.alloc (.cells #[v1,v2,v3] T)):=(Ag _ w).alloc (Af _) _
 match i,hl with
 |0,hl=>
  simp at hl;subst hl;obtain⟨p,c,rfl,k1,k2,k3,k4⟩:=Has.of_owns h1;exact⟨_,_,p,_,c,rfl,(Am _ w.heap.size 0 _ T (0,0) hn).trans rfl,k3,k1,k2,k4.below hb,Fv h1⟩
 |1,hl=>
  simp at hl;subst hl;obtain⟨p,c,rfl,k1,k2,k3,k4⟩:=Has.of_owns h2;exact⟨_,_,p,_,c,rfl,(Am _ w.heap.size 1 _ T (0,0) hn).trans rfl,k3,k1,k2,k4.below hb,Fv h2⟩
 |2,hl=>
  simp at hl;subst hl;obtain⟨p,c,rfl,k1,k2,k3,k4⟩:=Has.of_owns h3;exact⟨_,_,p,_,c,rfl,(Am _ w.heap.size 2 _ T (0,0) hn).trans rfl,k3,k1,k2,k4.below hb,Fv h3⟩
theorem Jh6(p0:Option Addr)(c0 n base:Nat)(pv:List PV)(pd:List Bk)(w:World)(hrow:w.ownsRow base 228 12 (.slice p0 n c0) n (pvs false pv))(hpt:Bf w (fun b=>0≤b∧some b≠(Value.slice p0 n c0).ownBlock) pv pd)(hn:pd.length=n)(hok:Sj pd):
 Calls Tryz.prog 78 #[.slice p0 n c0] w fun e w'=>∃v,e= .returned v∧w'.ownsRow w.heap.size 5 1 v (Rw pd).length ((Rw pd).map u8v)∧w.grownBy w' (Value.slice p0 n c0).ownBlock:=by
 obtain⟨i0,hi,hz0,hz1,hz2⟩:=info_parts Tryz.infoOwnPart;have HI:=Aa hi;have H0:=Aa hz0;have H1:=Aa hz1;have H2:=Aa hz2;obtain⟨i1,gi,gz0,gz1,gz2⟩:=info_parts Tryz.infoU8;have GI:=Aa gi;have G0:=Aa gz0;have G1:=Aa gz1;have G2:=Aa gz2;obtain⟨j0,hj,hj0,hj1,hj2⟩:=info_parts Tryz.infoStr;have JI:=Aa hj;have J0:=Aa hj0;have J1:=Aa hj1;have J2:=Aa hj2;have hrow0:=Cm (c:=0) hrow (Ak _);have HRW:=Aa hrow0;have HPT:=Aa hpt;have HNP:=Aa hn;have HOK:=Aa hok;have hn130:n≤130:=by have:=hok.len;omega
 have hrlt:=fun g hg=>(hrow.lt g hg).2;have HRLT:=Aa hrlt;have hnq:Bh pd=(pd.map Bk.name++ [Gz]).map lst:=by unfold Bh;simp
 have hnl:(pd.map Bk.name).length=n:=by rw[List.length_map,hn]
 have hnk:∀(k:Nat)(y:Bk),pd[k]?=some y→(pd.map Bk.name)[k]?=some y.name:=fun k y h=>by rw[List.getElem?_map,h];rfl
 have hnmb:∀x∈pd.map Bk.name++ [Gz],mayB (lst x)=true:=fun x hx=>Ja2 hok (lst x) (by rw[hnq];exact List.mem_map.2 ⟨x,hx,rfl⟩);generalize pd.map Bk.name=nms at*;have HNQ:=Aa hnq;have HNL:=Aa hnl;have HNK:=Aa hnk;have HNMB:=Aa hnmb;clear hrow hrow0 hpt hn hok hrlt hnq hnl hnk hnmb hi hz0 hz1 hz2 gi gz0 gz1 gz2 hj hj0 hj1 hj2;go_enter Tryz.func78,Tryz.ntmps78;go_wp2_with fail
 go_loopw [3,15] (fun r3 r15 wr=>∃(k:Nat),k≤n∧r15= .int .i64 (k:Int)∧wr.ownsRow w.heap.size 9 1 r3 k ((nms.take k).map Value.string)∧Below w.heap.size w wr) (fun _ r15 _=>n - (intOf r15).toNat)
 case atStart=>exact⟨0,Ak _,rfl,Aq _ _ _ _,Ag _ _⟩
 case round=>
  obtain⟨k,hk,rfl,hown,hb⟩:=hrel;by_cases hlt:k < n
  ·obtain⟨g,y,q,c,rfl,hyk,_,_,_,_,d0,d1,d2,d3,d4,d5,d6,d7,d8,d9,d10,d11⟩:=Jjl HRW.out HPT.out HNP.out hlt;have e0:=Ax hb d0;have e1:=Ax hb d1;have e2:=Ax hb d2;have e3:=Ax hb d3;have e4:=Ax hb d4;have e5:=Ax hb d5;have e6:=Ax hb d6;have e7:=Ax hb d7;have e8:=Ax hb d8;have e9:=Ax hb d9;have e10:=Ax hb d10;have e11:=Ax hb d11;have hst:nms.take (k+1)=nms.take k++ [y.name]:=by rw[List.take_add_one,HNK.out k y hyk];rfl
   have HST:=Aa hst;have hba:Below wr.heap.size wr (wr.alloc (.cells #[.string y.name,.int .i64 y.h.a,.int .i64 y.h.b,.int .i64 y.h.c,.int .i64 y.h.d,.int .i64 y.h.e,.int .i64 y.h.f,.int .i64 y.h.g,.int .i64 y.h.h,.int .i64 y.h.i,.int .i64 y.h.j,.slice q y.b.length c] 228)):=(Ag _ wr).alloc (Af _) _;have hha:=Dd wr (.cells #[.string y.name,.int .i64 y.h.a,.int .i64 y.h.b,.int .i64 y.h.c,.int .i64 y.h.d,.int .i64 y.h.e,.int .i64 y.h.f,.int .i64 y.h.g,.int .i64 y.h.h,.int .i64 y.h.i,.int .i64 y.h.j,.slice q y.b.length c] 228);have hJ:(k:Int) < (n:Int):=by omega
   have k2:(0:Int)≤(k:Int):=by omega
   have hbs:=hb.size;clear hyk d0 d1 d2 d3 d4 d5 d6 d7 d8 d9 d10 d11 hst;go_upto_region 5 with fail
   generalize y.b.length=bn at*;generalize wr.alloc (.cells #[.string y.name,.int .i64 y.h.a,.int .i64 y.h.b,.int .i64 y.h.c,.int .i64 y.h.d,.int .i64 y.h.e,.int .i64 y.h.f,.int .i64 y.h.g,.int .i64 y.h.h,.int .i64 y.h.i,.int .i64 y.h.j,.slice q bn c] 228)=ws at*;obtain⟨s0,_⟩:=Vf _ _ _ _ _ _ _ _ _ _ _ _ _ _ _ hha;have hown2:=Bd hown hba;have hb2:Below w.heap.size w ws:=hb.trans (hba.mono hbs);have hb2s:=hb2.size;clear e0 e1 e2 e3 e4 e5 e6 e7 e8 e9 e10 e11 hha hown hb hba;go_wp2_with (at_builtin;refine wpList_append_own _ rfl (.tmp 19) (.tmp 22) 109 rfl w.heap.size 9 j0 _ 1 16 Tryz.underlying109 JI.out J0.out J1.out J2.out rfl (by decide) _ k _ rfl (hown2.alloc _) ⟨ws.heap.size,0,none⟩ 1 1 [.string y.name] rfl rfl (cell_one_new ws _ _) (Pw _) (by unfold maxLen;omega) (by omega) (by simp;omega) ?_)
   intro v3 w4 hown4 hg4 _;have hb4:Below w.heap.size w w4:=(hb2.alloc hb2.size _).grown hg4 (by simp;omega) (fun g hg=>(hown2.lt g hg).1);have hown5:w4.ownsRow w.heap.size 9 1 v3 (k+1) ((nms.take (k+1)).map Value.string):=by
    rw[HST.out,List.map_append,List.map_take];exact hown4
   clear hown2 hg4 hb2 hown4;go_wp2_with fail
   go_roundw
   case rel=>exact⟨k+1,hlt,by go_num,hown5,hb4⟩
   case measure=>simp[intOf];omega
  ·obtain rfl:k=n:=by omega
   have hJ:¬(k:Int) < (k:Int):=by omega
   have hE:Hid (nms.take k=nms):=Aa (List.take_of_length_le (by rw[HNL.out];exact Af _));rw[hE.out]at hown;have hbs:=hb.size;clear hE;go_wp2_with (at_builtin;refine wpList_append_own _ rfl (.tmp 26) (.tmp 27) 109 rfl w.heap.size 9 j0 _ 1 16 Tryz.underlying109 JI.out J0.out J1.out J2.out rfl (by decide) _ k _ rfl (hown.alloc _) ⟨wr.heap.size,0,none⟩ 1 1 [.string Gz] rfl rfl (cell_one_new wr _ _) (Pw _) (by unfold maxLen;omega) (by omega) (by simp;omega) ?_)
   intro v3 w4 hown4 hg4 _;have hb4:Below w.heap.size w w4:=(hb.alloc hb.size _).grown hg4 (by simp;omega) (fun g hg=>(hown.lt g hg).1);rw[Sm]at hown4;obtain⟨p5,c5,rfl,n1,n2,n3,hns⟩:=Rl.of_owns hown4;have HMK:=Aa (Yz p5 (k+1) c5 _ _ hns n3 (by omega) HNMB.out);rw[←HNQ.out]at HMK;have hb4s:=hb4.size;clear hown hg4 hb hns n1 n2 n3 hown4;go_wp2_with fail
   refine HMK.out.mono ?_;rintro e wm ⟨t1,t2,rfl,ht,hpl,hbm⟩;have hbC2:Below w.heap.size w wm:=hb4.trans (hbm.mono hb4s);have hbC2s:=hbC2.size;have hbms:=hbm.size;have hpll:(placesOf (Bh pd)).length=k+1:=by rw[Gb,Eu,HNP.out]
   rw[hpll]at hpl;obtain⟨p9,c9,rfl,_,_,_,_⟩:=Has.of_owns ht;have HT:=Aa ht;have htb:=Zx HOK.out;have HNP9:=Aa fun W=>Kz Gz Dc p9 (Cj (Bh pd)).tb.length c9 W;clear hpll ht;generalize htl:(Cj (Bh pd)).tb.length=tl at*;have HTL:=Aa htl;clear htl;go_wp2_with fail
   refine(HNP9.out _).mono ?_;rintro e w5 ⟨rfl,hb5⟩;have hbw5:Below w.heap.size w w5:=hbC2.trans (hb5.mono hbC2s);have hb5s:=hbw5.size;have hb5s2:=hb5.size;have hrow5:=Bd HRW.out hbw5;have HPT5:=Aa (HPT.out.below hbw5);have hpl5:=Bd hpl hb5;have hsl:Bf w5 (fun b=>0≤b∧some b≠(Value.slice p0 k c0).ownBlock) [⟨szT Dc (tl:Int),Gz,(.slice p9 tl c9)⟩] [szP ⟨Dc,Gz,(Cj (Bh pd)).tb⟩]:=by
    have h1:Bf w5 (fun b=>0≤b∧some b≠(Value.slice p0 k c0).ownBlock) [⟨szT Dc (tl:Int),Gz,(.slice p9 tl c9)⟩] [⟨szT Dc (tl:Int),Gz,(Cj (Bh pd)).tb⟩]:=Bf.one (SlB.of_owns (Ed HT.out hb5) fun b hb=>by
     have h1:=(HT.out.lt b hb).1
     exact⟨by omega,fun e=>by have:=HRLT.out b e.symm;omega⟩)
    unfold szP;rw[HTL.out];exact h1
   have h1c:∀u∈PV.cells false ⟨szT Dc (tl:Int),Gz,(.slice p9 tl c9)⟩,u.oneCell'=true:=fun u hu=>(hsl.oneCell (q:=false)) u (by simpa[pvs]using hu);have H1C:=Aa h1c;have HSL:=Aa hsl;clear hsl h1c hpl;go_wp2_with (at_builtin;refine wpList_append_own_at _ rfl (.tmp 32) (.tmp 36) 167 rfl 0 228 i0 _ 12 120 Tryz.underlying167 HI.out H0.out H1.out H2.out rfl (by decide) _ k _ rfl (hrow5.alloc _) ⟨w5.heap.size,0,none⟩ 1 1 (PV.cells false ⟨szT Dc (tl:Int),Gz,(.slice p9 tl c9)⟩) rfl rfl (Fi w5 _ _) H1C.out (by unfold maxLen;omega) (by omega) (by simp) ?_)
   intro vD wD hown6 hg6 _ hat6;have HP:=Aa (Jf HPT5.out HSL.out (by rw[HNP.out];exact hown6) hg6 hat6);have hgw:w.grownBy wD (Value.slice p0 k c0).ownBlock:=(Below.toGrown (hbw5.alloc hb5s (.cells #[.string Gz,.int .i64 0,.int .i64 3,.int .i64 0,.int .i64 0,.int .i64 0,.int .i64 (tl:Int),.int .i64 0,.int .i64 0,.int .i64 1,.int .i64 0,.slice p9 tl c9] 228)) _).trans hg6;have hplD:wD.ownsRow w4.heap.size 3 1 t2 (k+1) (Hh (placesOf (Bh pd))):=(hpl5.alloc _).kept hg6 (Jkl hpl5 fun b hb=>by have:=HRLT.out b hb;omega);have HGW:=Aa hgw;have hgws:=hgw.size;have hall:(ownAll pd).length=k+1:=by rw[Pc,HNP.out]
   have hal:ownAll pd=pd++ [szP ⟨Dc,Gz,(Cj (Bh pd)).tb⟩]:=rfl;rw[←hal,hall]at HP;have HRD:=Aa HP.out.1;have HPD9:=Aa HP.out.2;have hrd:=HP.out.1;have HALL:=Aa hall;have hle:Rw pd=Nt (64+(Cn (ownAll pd)).length) (1+(ownAll pd).length) (ownAll pd).length++Cn (ownAll pd)++Fj (placesOf (Bh pd)) (ownAll pd) (ownAll pd).length:=rfl;rw[hall]at hle;have HLE:=Aa hle;have HMY:=Aa fun i p h=>Jo6 HOK.out i p h;have HBT:=Aa fun i=>Jcz HOK.out i;have hpln:(placesOf (Bh pd)).length=k+1:=by have:=hplD.1;simp[Hh]at this;simpa using this
   have HPLN:=Aa hpln;have HZ:=Aa fun W=>(Jgt Ri W).1 Jo0;obtain⟨pD,cD,rfl,_,_,_⟩:=Bl hrd;clear hown6 hg6 hat6 hpl5 hrow5 HSL HPT5 HP hgw hrd hal hall hle hpln HMK HNQ HNL HNK HNMB HRW HPT HT HTL H1C HNP9 hbw5 hb5 hbm hb4 hbC2;generalize ownAll pd=al at*;generalize placesOf (Bh pd)=pls at*;go_wp2_with fail
   refine(HZ.out _).mono ?_;rintro e wH ⟨vH,rfl,hownH,hbH⟩;have h64:(sectB Ri).length=64:=Nj _;rw[h64]at hownH;have hh0:Fj pls al 0=sectB Ri:=by unfold Fj;simp
   rw[←hh0]at hownH;clear h64 hh0;go_wp2_with fail
   go_loopw [8,9,42] (fun r8 r9 r42 wr=>∃(i nb nh:Nat),i≤k+1∧r42= .int .i64 (i:Int)∧nb=(Cn (al.take i)).length∧nh=64+64*i∧wr.ownsRow wD.heap.size 5 1 r8 nb ((Cn (al.take i)).map u8v)∧wr.ownsRow wD.heap.size 5 1 r9 nh ((Fj pls al i).map u8v)∧(∀b,r8.ownBlock=some b→r9.ownBlock≠some b)∧Below wD.heap.size wD wr) (fun _ _ r42 _=>k+1 - (intOf r42).toNat)
   case atStart=>exact⟨0,0,64,Ak _,rfl,rfl,rfl,Aq _ _ _ _,hownH,(fun b h=>by cases h),hbH⟩
   case round=>
    obtain⟨i,nb,nh,hi,rfl,hnb,hnh,hob,hoh,hne,hb⟩:=hrel;have HNB:=Aa hnb;have HNH:=Aa hnh;have HNE:=Aa hne;have hnbl:nb≤60000000:=by rw[hnb];exact HBT.out i
    have hbs:=hb.size;clear hnb hnh hne;by_cases hlt:i < k+1
    ·obtain⟨g,y,q,c,rfl,hyk,hq1,hq2,hq3,hq4,d0,d1,d2,d3,d4,d5,d6,d7,d8,d9,d10,d11⟩:=Jjl HRD.out HPD9.out HALL.out hlt;have e0:=Ax hb d0;have e1:=Ax hb d1;have e2:=Ax hb d2;have e3:=Ax hb d3;have e4:=Ax hb d4;have e5:=Ax hb d5;have e6:=Ax hb d6;have e7:=Ax hb d7;have e8:=Ax hb d8;have e9:=Ax hb d9;have e10:=Ax hb d10;have e11:=Ax hb d11;obtain⟨g2,c2,cur2,rfl,_,_,_,hgc,hgm,_,_⟩:=Oo hplD (by omega);have hplx:=Bd hplD hb;obtain⟨pq,hpq⟩:∃pq,pls[i]?=some pq:=⟨_,Ae (by rw[HPLN.out];exact hlt)⟩
     have hpc:wr.cell? ⟨g2,i,none⟩=some (.int .i64 (pq:Int)):=by
      rw[hplx.cellAt i (by omega)];simp only[Hh,List.getElem?_map,hpq];rfl
     have hht:Lr pls i (Cn (al.take i)).length y=⟨(pq:Int),y.h.b,y.h.c,y.h.d,64+(nb:Int),y.h.f,y.h.g,y.h.h,y.h.i,y.h.j⟩:=by
      unfold Lr;rw[←HNB.out,List.getD_eq_getElem?_getD,hpq];rfl
     have hmi:=HMY.out i y hyk;have hsu:=Jbx (pl:=pls) hyk;have hbsu:Cn (al.take (i+1))=Cn (al.take i)++y.b:=by rw[List.take_add_one,hyk];exact Vo _ _
     rw[hht]at hmi hsu;have HC:=Aa fun W=>(Jgt ⟨(pq:Int),y.h.b,y.h.c,y.h.d,64+(nb:Int),y.h.f,y.h.g,y.h.h,y.h.i,y.h.j⟩ W).1 hmi;have hsl64:=Nj ⟨(pq:Int),y.h.b,y.h.c,y.h.d,64+(nb:Int),y.h.f,y.h.g,y.h.h,y.h.i,y.h.j⟩;have hybl:(y.b).length≤60000000:=by
      have:=HBT.out (i+1);rw[hbsu,List.length_append]at this;omega
     generalize sectB ⟨(pq:Int),y.h.b,y.h.c,y.h.d,64+(nb:Int),y.h.f,y.h.g,y.h.h,y.h.i,y.h.j⟩=sb at*;have HSU:=Aa hsu;have HBSU:=Aa hbsu;have HSB:=Aa hsl64;have HYB:=Aa hq4;have HYN:=Aa hq3;have hJ:(i:Int) < (k:Int)+1:=by omega
     have k2:(0:Int)≤(i:Int):=by omega
     have hba:Below wr.heap.size wr (wr.alloc (.cells #[.string y.name,.int .i64 y.h.a,.int .i64 y.h.b,.int .i64 y.h.c,.int .i64 y.h.d,.int .i64 y.h.e,.int .i64 y.h.f,.int .i64 y.h.g,.int .i64 y.h.h,.int .i64 y.h.i,.int .i64 y.h.j,.slice q y.b.length c] 228)):=(Ag _ wr).alloc (Af _) _;have hha:=Dd wr (.cells #[.string y.name,.int .i64 y.h.a,.int .i64 y.h.b,.int .i64 y.h.c,.int .i64 y.h.d,.int .i64 y.h.e,.int .i64 y.h.f,.int .i64 y.h.g,.int .i64 y.h.h,.int .i64 y.h.i,.int .i64 y.h.j,.slice q y.b.length c] 228);have hpa:=Ax hba hpc;generalize hybn:y.b.length=bn at*;have HYBN:=Aa hybn;obtain⟨pB,cB,rfl,_,_,_⟩:=Bl hob;have kw:IntKind.i64.wrap (64+(nb:Int))=64+(nb:Int):=Al _ (by omega);clear hplx hpq hht hmi hsu hbsu hsl64 hq3 hq4 hpc hyk hybn d0 d1 d2 d3 d4 d5 d6 d7 d8 d9 d10 d11;go_upto_region 14 with fail
     generalize wr.alloc (.cells #[.string y.name,.int .i64 y.h.a,.int .i64 y.h.b,.int .i64 y.h.c,.int .i64 y.h.d,.int .i64 y.h.e,.int .i64 y.h.f,.int .i64 y.h.g,.int .i64 y.h.h,.int .i64 y.h.i,.int .i64 y.h.j,.slice q bn c] 228)=wh at*;have s1:=(Vf _ _ _ _ _ _ _ _ _ _ _ _ _ _ _ hha).2.1;have hfz:=Ap _ _ 1 _ _ hha;have hst2:(wh.setCell ⟨wr.heap.size,1,none⟩ (.int .i64 (pq:Int))).heap[wr.heap.size]?=some (.cells #[.string y.name,.int .i64 (pq:Int),.int .i64 y.h.b,.int .i64 y.h.c,.int .i64 y.h.d,.int .i64 y.h.e,.int .i64 y.h.f,.int .i64 y.h.g,.int .i64 y.h.h,.int .i64 y.h.i,.int .i64 y.h.j,.slice q bn c] 228 (0,0)):=An wh wr.heap.size 1 _ _ (.int .i64 (pq:Int)) hha;have hbst:Below wr.heap.size wr (wh.setCell ⟨wr.heap.size,1,none⟩ (.int .i64 (pq:Int))):=hba.setCell (Af _) _;clear e0 e1 e2 e3 e4 e5 e6 e7 e8 e9 e10 e11 hba;go_upto_region 15 with fail
     generalize wh.setCell ⟨wr.heap.size,1,none⟩ (.int .i64 (pq:Int))=wi at*;clear hha s1 hfz hpa;have s5:=(Vf _ _ _ _ _ _ _ _ _ _ _ _ _ _ _ hst2).2.2.2.2.2.1;have hfz5:=Ap _ _ 5 _ _ hst2;have hst3:(wi.setCell ⟨wr.heap.size,5,none⟩ (.int .i64 (64+(nb:Int)))).heap[wr.heap.size]?=some (.cells #[.string y.name,.int .i64 (pq:Int),.int .i64 y.h.b,.int .i64 y.h.c,.int .i64 y.h.d,.int .i64 (64+(nb:Int)),.int .i64 y.h.f,.int .i64 y.h.g,.int .i64 y.h.h,.int .i64 y.h.i,.int .i64 y.h.j,.slice q bn c] 228 (0,0)):=An wi wr.heap.size 5 _ _ (.int .i64 (64+(nb:Int))) hst2;have hbst3:Below wr.heap.size wr (wi.setCell ⟨wr.heap.size,5,none⟩ (.int .i64 (64+(nb:Int)))):=hbst.setCell (Af _) _;go_upto_region 16 with fail
     generalize wi.setCell ⟨wr.heap.size,5,none⟩ (.int .i64 (64+(nb:Int)))=wz at*;clear hst2 s5 hfz5 hbst;obtain⟨t0,t1',t2',t3,t4,t5,t6,t7,t8,t9,t10,t11⟩:=Vf _ _ _ _ _ _ _ _ _ _ _ _ _ _ _ hst3;have hbD9:Below wD.heap.size wD wz:=hb.trans (hbst3.mono hbs);have hob2:=Bd hob hbst3;have hoh2:=Bd hoh hbst3;have hobl:=fun b hb=>(hob.lt b hb).2;have hohl:=fun b hb=>(hoh.lt b hb).2;have hbDs:=hbD9.size;have hbzs:=hbst3.size;clear hst3 hob hoh hbst3;go_wp2_with fail
     refine(HC.out _).mono ?_;rintro e wF ⟨vF,rfl,hownF,hbbF⟩;rw[HSB.out]at hownF;have hobF:=Bd hob2 hbbF;have hohF:=Bd hoh2 hbbF;have r11:=Ax hbbF t11;have hbF:Below wD.heap.size wD wF:=hbD9.trans (hbbF.mono hbDs);obtain⟨p8,c8,rfl,_,_,y3,y4⟩:=Has.of_owns hownF;have hpn8:=Fv hownF;have Y4:=Aa y4;have Y3:=Aa y3;have hnh9:nh≤10000:=by have:=HNH.out;omega
     have hbFs:=hbF.size;clear hownF hbbF hob2 hoh2 hbD9 y3 y4 t0 t1' t2' t3 t4 t5 t6 t7 t8 t9 t10 t11;go_wp2_with (at_builtin;refine Cd _ rfl (.tmp 58) (.tmp 61) 31 rfl wD.heap.size 5 i1 Tryz.underlying31 GI.out G0.out G1.out G2.out _ nh _ rfl hohF p8 64 c8 sb rfl Y4.out Y3.out hpn8 (by omega) hbFs ?_)
     intro vG wG hohG hgG hatG;have hobG:=hobF.kept hgG (Jcc fun b hb he=>HNE.out b he hb);have hneG:=Jcp HNE.out (fun b hb=>(hobF.lt b hb).2) hatG;have hbG:Below wD.heap.size wD wG:=hbF.grown hgG hbFs (fun g hg=>(hohF.lt g hg).1);have hbGs:=hbG.size;have m11:=hgG.cell r11 (fun e=>Nat.lt_irrefl _ (hohl _ e.symm));rw[←List.map_append,←HSU.out]at hohG;have HNEG:=Aa hneG;have HYG:=Aa (HYB.out.below hbG);clear hobF hohF hgG hatG hneG r11 hohl hbF;go_wp2_with (at_builtin;refine Cd _ rfl (.tmp 63) (.tmp 65) 31 rfl wD.heap.size 5 i1 Tryz.underlying31 GI.out G0.out G1.out G2.out _ nb _ rfl hobG q bn c y.b rfl HYG.out HYBN.out HYN.out (by omega) hbGs ?_)
     intro vE wE hobE hgE hatE;have hohE:=hohG.kept hgE (Jcc HNEG.out);have HNEE:=Aa (Jcr HNEG.out (fun b hb=>(hohG.lt b hb).2) hatE);have hbE:Below wD.heap.size wD wE:=hbG.grown hgE hbGs (fun g hg=>(hobG.lt g hg).1);rw[←List.map_append,←HBSU.out]at hobE;have hbln:nb+bn=(Cn (al.take (i+1))).length:=by rw[HBSU.out,List.length_append,←HNB.out,HYBN.out]
     have HBLN:=Aa hbln;clear hobG hohG hgE hatE hbln hbG m11 hobl;go_wp2_with fail
     go_roundw
     case rel=>exact⟨i+1,nb+bn,nh+64,by omega,by go_num,HBLN.out,by have:=HNH.out;omega,hobE,hohE,HNEE.out,hbE⟩
     case measure=>simp[intOf];omega
    ·obtain rfl:i=k+1:=by omega
     have hJ:¬((k+1:Nat):Int) < (k:Int)+1:=by omega
     have hE:Hid (al.take (k+1)=al):=Aa (List.take_of_length_le (by rw[HALL.out];exact Af _));rw[hE.out]at hob;have hnb2:nb=(Cn al).length:=by rw[HNB.out,hE.out]
     have HNB2:=Aa hnb2;have hohl:(Fj pls al (k+1)).length=nh:=by have:=hoh.1;simpa using this
     have HOHL:=Aa hohl;have HOB:=Aa hob;have HOH:=Aa hoh;obtain⟨pB,cB,rfl,_,_,_⟩:=Bl hob;obtain⟨pH,cH,rfl,_,_,_⟩:=Bl hoh;have HBG:=Aa fun W=>Jnr (64+nb) (1+(k+1)) (k+1) W ⟨by omega,by omega,by omega,by omega,by omega,by omega⟩;have kw:IntKind.i64.wrap (64+(nb:Int))=64+(nb:Int):=Al _ (by omega);have kk:IntKind.i64.wrap (1+((k:Int)+1))=1+((k:Int)+1):=Al _ (by omega);have hpu:((64+nb:Nat):Int)=64+(nb:Int):=by omega
     have hpk:((k+1:Nat):Int)=(k:Int)+1:=by omega
     have hpm:((1+(k+1):Nat):Int)=1+((k:Int)+1):=by omega
     rw[hpu,hpm,hpk]at HBG;have hnh9:nh≤10000:=by have:=HNH.out;omega
     have hgD:w.grownBy wr (Value.slice p0 k c0).ownBlock:=HGW.out.trans (Below.toGrown (hb.mono (Af _)) _);have HGD:=Aa hgD;have hws:=hgD.size;clear hnb2 hob hoh hb hpu hpk hpm HNE hohl hgD;go_wp2_with fail
     refine(HBG.out _).mono ?_;rintro e wO ⟨vO,rfl,hownO,hbO⟩;rw[Mf]at hownO;have hob9:=Bd HOB.out hbO;have hoh9:=Bd HOH.out hbO;obtain⟨pO,cO,rfl,_,_,_⟩:=Bl hownO;have hlen3: [Nt (64+nb) (1+(k+1)) (k+1),Cn al,Fj pls al (k+1)].flatten.length≤100000000:=by
      simp only[List.flatten_cons,List.flatten_nil,List.length_append,List.length_nil,Mf];have e1:=HNB2.out;have e2:=HOHL.out;omega
     have HCC:=Aa (Sw (some ⟨wO.heap.size,0,none⟩) 3 3 [Nt (64+nb) (1+(k+1)) (k+1),Cn al,Fj pls al (k+1)] _ (Jfl wO 31 (.slice pO 64 cO) (.slice pB nb cB) (.slice pH nh cH) _ _ _ _ _ _ 64 nb nh hownO hob9 hoh9) rfl (by omega) hlen3);have hbm:Below wO.heap.size wO (wO.alloc (.cells #[(.slice pO 64 cO),(.slice pB nb cB),(.slice pH nh cH)] 31)):=(Ag _ wO).alloc (Af _) _;have HBM:=Aa hbm;have hbOs:=hbO.size;clear hownO hob9 hoh9 hlen3 hbm;go_wp2_with fail
     refine HCC.out.mono ?_;rintro e wQ ⟨vQ,rfl,hownQ,hbQ⟩;have hbmQ:Below wO.heap.size wO wQ:=HBM.out.trans (hbQ.mono HBM.out.size);have hfin:w.grownBy wQ (Value.slice p0 k c0).ownBlock:=HGD.out.trans (Below.toGrown (hbO.trans (hbmQ.mono hbOs)) _);have hms:=HBM.out.size;have hres:Rw pd= [Nt (64+nb) (1+(k+1)) (k+1),Cn al,Fj pls al (k+1)].flatten:=by
      rw[HLE.out,←HNB2.out];simp
     have HRES:=Aa hres;have HFIN:=Aa hfin;have HOWQ:=Aa hownQ;clear hownQ hbQ hbmQ hfin hres;go_wp2_with fail
     go_ret;refine⟨vQ,rfl,?_,HFIN.out⟩;rw[HRES.out];exact Cm HOWQ.out (by omega)
theorem Jby(o:Az)(v0 v1 v2 v4:Value)(w:World)(hp:Dn w v0 v1 v2 v4 o)(hs:FewD o):
 Calls Tryz.prog 41 #[Gq v0 v1 v2 o.hasSig v4] w fun e w'=>e= .returned (.bool (butO o))∧Below w.heap.size w w':=by
 have hb1:Below w.heap.size w (w.alloc (.cells #[v0,v1,v2,.bool o.hasSig,v4] 27)):=(Ag _ w).alloc (Af _) _;obtain⟨hq,hys,hgp,hsg⟩:=hp.below hb1;obtain⟨p0,c0,rfl,_,_,_,hqh⟩:=hq;obtain⟨p1,c1,rfl,y1,_,_,hyh⟩:=hys;obtain⟨p2,c2,rfl,_,_,_,hgh⟩:=hgp;have n0:=hs.secs;have n1:=hs.syms;have n2:=hs.grps;have n3:=hs.mems;have a0:(w.alloc (.cells #[.slice p0 o.secs.length c0,.slice p1 o.syms.length c1,.slice p2 o.groups.length c2,.bool o.hasSig,v4] 27)).cell? ⟨w.heap.size,0,none⟩=some (.slice p0 o.secs.length c0):=by simp
 have a1:(w.alloc (.cells #[.slice p0 o.secs.length c0,.slice p1 o.syms.length c1,.slice p2 o.groups.length c2,.bool o.hasSig,v4] 27)).cell? ⟨w.heap.size,1,none⟩=some (.slice p1 o.syms.length c1):=by simp
 have a2:(w.alloc (.cells #[.slice p0 o.secs.length c0,.slice p1 o.syms.length c1,.slice p2 o.groups.length c2,.bool o.hasSig,v4] 27)).cell? ⟨w.heap.size,2,none⟩=some (.slice p2 o.groups.length c2):=by simp
 have a3:(w.alloc (.cells #[.slice p0 o.secs.length c0,.slice p1 o.syms.length c1,.slice p2 o.groups.length c2,.bool o.hasSig,v4] 27)).cell? ⟨w.heap.size,3,none⟩=some (.bool o.hasSig):=by simp
 have a4:(w.alloc (.cells #[.slice p0 o.secs.length c0,.slice p1 o.syms.length c1,.slice p2 o.groups.length c2,.bool o.hasSig,v4] 27)).cell? ⟨w.heap.size,4,none⟩=some v4:=by simp
 have hr:butO o=bif decide (o.secs.length≤32)then symsO o.secs o.syms&&(groupsO o.secs o.syms.length o.groups&&(eachB (secAllO o.secs.length o.syms.length) o.secs&&sigO o.hasSig o.syms.length o.sig))else false:=rfl
 generalize hW1:w.alloc (.cells #[.slice p0 o.secs.length c0,.slice p1 o.syms.length c1,.slice p2 o.groups.length c2,.bool o.hasSig,v4] 27)=W1 at*;have HM1:=Aa fun(W:World)(hW:Below W1.heap.size W1 W)=>Jah (.slice p2 o.groups.length c2) v4 o.hasSig p0 p1 c0 c1 o.secs o.syms W (hqh.below Ev.keeps hW) (hyh.below Ie.keeps hW) (by omega) y1;have HM2:=Aa fun(W:World)(hW:Below W1.heap.size W1 W)=>Wx v4 o.hasSig p0 p1 p2 c0 c1 c2 o.syms.length o.secs o.groups W (hqh.below Ev.keeps hW) (hgh.below Ew.keeps hW) (by omega) (by omega) (by omega) (fun g hg=>by have:=n3 g hg;omega);have HM3:=Aa fun(W:World)(hW:Below W1.heap.size W1 W)=>Zm (.slice p2 o.groups.length c2) v4 o.hasSig p0 p1 c0 c1 o.syms.length o.secs W (hqh.below Ev.keeps hW) (by omega) (by omega);have HM4:=Aa fun(W:World)(hW:Below W1.heap.size W1 W)=>Jb2 (.slice p0 o.secs.length c0) (.slice p2 o.groups.length c2) v4 p1 o.syms.length c1 o.hasSig o.sig W (hsg.below Cc.keeps hW) (by omega);generalize butO o=res at*;generalize symsO o.secs o.syms=q1 at*;generalize groupsO o.secs o.syms.length o.groups=q2 at*;generalize eachB (secAllO o.secs.length o.syms.length) o.secs=q3 at*;generalize sigO o.hasSig o.syms.length o.sig=q4 at*;generalize o.secs.length=ql at*;generalize o.syms.length=yl at*;generalize o.groups.length=gl at*;generalize o.hasSig=sg at*;have HR:=Aa hr;have HB1:=Aa hb1;have hbs:=hb1.size;clear hp hb1 hqh hyh hgh hsg hr y1 n1 n2 n3 hs;go_enter Tryz.func41,Tryz.ntmps41;go_upto_region 1 with fail
 clear hW1;by_cases h32:ql≤32
 ·have hE:Hid (res=(q1&&(q2&&(q3&&q4)))):=Aa (by rw[HR.out,Aj h32];rfl);have hI:(ql:Int)≤32:=by omega
  clear HR h32;go_wp2_with fail
  refine(HM1.out _ (Ag _ _)).mono ?_;rintro e w2 ⟨rfl,hb2⟩;have b0:=Ax hb2 a0;have b1:=Ax hb2 a1;have b2:=Ax hb2 a2;have b3:=Ax hb2 a3;have b4:=Ax hb2 a4;clear a0 a1 a2 a3 a4 HM1;cases q1 with
  |false=>
   have hE2:Hid (res=false):=Aa (by rw[hE.out];rfl);go_wp2_with fail
   go_ret;rw[hE2.out];exact⟨rfl,HB1.out.trans (hb2.mono hbs)⟩
  |true=>
   have hb2s:=hb2.size;go_wp2_with fail
   refine(HM2.out _ hb2).mono ?_;rintro e w3 ⟨rfl,hx3⟩;have hb3:=hb2.trans (hx3.mono hb2s);have d0:=Ax hx3 b0;have d1:=Ax hx3 b1;have d2:=Ax hx3 b2;have d3:=Ax hx3 b3;have d4:=Ax hx3 b4;clear b0 b1 b2 b3 b4 HM2 hx3 hb2;cases q2 with
   |false=>
    have hE2:Hid (res=false):=Aa (by rw[hE.out];rfl);go_wp2_with fail
    go_ret;rw[hE2.out];exact⟨rfl,HB1.out.trans (hb3.mono hbs)⟩
   |true=>
    have hb3s:=hb3.size;go_wp2_with fail
    refine(HM3.out _ hb3).mono ?_;rintro e w4 ⟨rfl,hx4⟩;have hb4:=hb3.trans (hx4.mono hb3s);have e0:=Ax hx4 d0;have e1:=Ax hx4 d1;have e2:=Ax hx4 d2;have e3:=Ax hx4 d3;have e4:=Ax hx4 d4;clear d0 d1 d2 d3 d4 HM3 hx4 hb3;cases q3 with
    |false=>
     have hE2:Hid (res=false):=Aa (by rw[hE.out];rfl);go_wp2_with fail
     go_ret;rw[hE2.out];exact⟨rfl,HB1.out.trans (hb4.mono hbs)⟩
    |true=>
     have hb4s:=hb4.size;have hE2:Hid (res=q4):=Aa (by rw[hE.out];rfl);go_wp2_with fail
     refine(HM4.out _ hb4).mono ?_;rintro e w5 ⟨rfl,hx5⟩;have hb5:=hb4.trans (hx5.mono hb4s);clear e0 e1 e2 e3 e4 HM4 hx5 hb4;go_wp2_with fail
     go_ret;rw[hE2.out];exact⟨rfl,HB1.out.trans (hb5.mono hbs)⟩
 ·have hE:Hid (res=false):=Aa (by rw[HR.out,Ai h32];rfl);have hI:¬(ql:Int)≤32:=by omega
  clear HR h32;go_wp2_with fail
  go_ret;rw[hE.out];exact⟨rfl,HB1.out⟩
theorem Jq0{w:World}{v0 v1 v2 v4:Value}{o:Az}(hp:Dn w v0 v1 v2 v4 o):Jjx o:=fun s hs=>by
 obtain⟨⟨p,c,_,_,_,_,hh⟩,_⟩:=hp;obtain⟨i,hi⟩:=Av hs;obtain⟨b,off,_,_,_,⟨_,hb⟩,_⟩:=hh i s hi;exact hb
theorem Jkk{o:Az}(hl:Ho o):(bytesOf o).length≤100000000:=by
 have h1:=Rc hl ((allOf o).length);have h2:=Oc (placesOf (Bh (Ci o))) (allOf o) (allOf o).length (Af _);have h3:=Ng o;have h4:=Kn hl;rw[List.take_length]at h1;rw[Pq,List.length_append,List.length_append,Mf,h2];omega
def Ja7(o:Az)(w:World)(e:Ending)(w':World):Prop:=Below w.heap.size w w'∧
 ((mayO o=true∧∃v,e= .returned (.tuple #[v,.bool true])∧w'.ownsRow w.heap.size 5 1 v (bytesOf o).length ((bytesOf o).map u8v))∨(mayO o=false∧e= .returned (.tuple #[.slice none 0 0,.bool false])))
theorem Jf4(o:Az)(v0 v1 v2 v4:Value)(w:World)(hp:Dn w v0 v1 v2 v4 o)(hs:Gn o):
 Calls Tryz.prog 33 #[Gq v0 v1 v2 o.hasSig v4] w (Ja7 o w):=by
 have hb1:Below w.heap.size w (w.alloc (.cells #[v0,v1,v2,.bool o.hasSig,v4] 27)):=(Ag _ w).alloc (Af _) _;have hpW:=hp.below hb1;have a0:(w.alloc (.cells #[v0,v1,v2,.bool o.hasSig,v4] 27)).cell? ⟨w.heap.size,0,none⟩=some v0:=by simp
 have a1:(w.alloc (.cells #[v0,v1,v2,.bool o.hasSig,v4] 27)).cell? ⟨w.heap.size,1,none⟩=some v1:=by simp
 have a2:(w.alloc (.cells #[v0,v1,v2,.bool o.hasSig,v4] 27)).cell? ⟨w.heap.size,2,none⟩=some v2:=by simp
 have a3:(w.alloc (.cells #[v0,v1,v2,.bool o.hasSig,v4] 27)).cell? ⟨w.heap.size,3,none⟩=some (.bool o.hasSig):=by simp
 have a4:(w.alloc (.cells #[v0,v1,v2,.bool o.hasSig,v4] 27)).cell? ⟨w.heap.size,4,none⟩=some v4:=by simp
 have hbd:=Jls hp;have hfl:=Jq0 hp;obtain⟨p4,c4,rfl,_,_,_,_⟩:∃p c,v4= .slice p o.sig.length c∧o.sig.length≤c∧c≤maxLen∧(p=none→c=0)∧Bg 1 Cc w p o.sig:=hp.2.2.2;have hsl:=hs.sig;have HBUT:=Aa fun W (hW:Dn W v0 v1 v2 (.slice p4 o.sig.length c4) o)=>Jby o v0 v1 v2 _ W hW hs.few;rw[Jr2 hs.few hfl]at HBUT;have HPA:=Aa fun W (hW:Dn W v0 v1 v2 (.slice p4 o.sig.length c4) o)(hl:Ho o)=>Jd2 o v0 v1 v2 _ W hW hl;have HLY:=Aa fun(hl:Ho o)=>And.intro (Jjw hl) (And.intro (Jnc hl) (Jkk hl));have HLAY:=Aa fun(h:shapeB o=true)=>Yl h hs hbd;have hmo:mayO o=(shapeB o&&decide ((bytesOf o).length≤16384)):=rfl
 have HGM:Hid (Ja7 o w=fun e w'=>Below w.heap.size w w'∧
  ((mayO o=true∧∃v,e= .returned (.tuple #[v,.bool true])∧w'.ownsRow w.heap.size 5 1 v (bytesOf o).length ((bytesOf o).map u8v))∨(mayO o=false∧e= .returned (.tuple #[.slice none 0 0,.bool false])))):=Aa rfl
 rw[HGM.out];clear HGM;generalize mayO o=res at*;generalize shapeB o=sb at*;generalize ownPs o=pd at*;generalize bytesOf o=bs at*;generalize hsln:o.sig.length=sl at*;have HMO:=Aa hmo;have HPW:=Aa hpW;clear hp hpW hs hbd hfl hmo hsln;go_enter Tryz.func33,Tryz.ntmps33;go_upto_region 1 with fail
 generalize w.alloc (.cells #[v0,v1,v2,.bool o.hasSig,.slice p4 sl c4] 27)=W1 at*;have hb1s:=hb1.size;have hI:¬(16384:Int) < (sl:Int):=by omega
 go_wp2_with fail
 refine(HBUT.out _ HPW.out).mono ?_;rintro e w2 ⟨rfl,hb2⟩;have b0:=Ax hb2 a0;have b1:=Ax hb2 a1;have b2:=Ax hb2 a2;have b3:=Ax hb2 a3;have b4:=Ax hb2 a4;have HP2:=Aa (HPW.out.below hb2);have hbw2:Below w.heap.size w w2:=hb1.trans (hb2.mono hb1s);have hbw2s:=hbw2.size;clear a0 a1 a2 a3 a4 hb1 hb2 HPW HBUT;cases sb with
 |false=>
  have hE:Hid (res=false):=Aa (by rw[HMO.out];rfl);go_wp2_with fail
  exact bodyPost_ret (v:= .tuple #[.slice none 0 0,.bool false]) (by simp[results,Tryz.results33,go_sem]) rfl ⟨hbw2,.inr ⟨hE.out,rfl⟩⟩
 |true=>
  have hl:=HLAY.out rfl;obtain⟨l1,l2,l3⟩:=HLY.out hl;have HPA2:=Aa (HPA.out w2 HP2.out hl);have hE:Hid (res=decide (bs.length≤16384)):=Aa (by rw[HMO.out];rfl);have HL2:=Aa l2;have HL1:=Aa l1;clear l1 l2 HLY HLAY HMO HPA HP2 hl;go_wp2_with fail
  refine HPA2.out.mono ?_;rintro e w3 ⟨v3,pv,rfl,hown3,hpa3,hx3⟩;obtain⟨p3,c3,rfl,_,_,_⟩:=Bl hown3;have hbw3:Below w.heap.size w w3:=hbw2.trans (hx3.mono hbw2s);have hLA:=Jh6 p3 c3 pd.length w2.heap.size pv pd w3 hown3 (hpa3.weaken fun b _ h=>⟨Ak _,h.2⟩) rfl HL2.out;rw[HL1.out]at hLA;have HLA:=Aa hLA;have HLT:=Aa fun g hg=>(hown3.lt g hg).1;clear hown3 hpa3 b0 b1 b2 b3 b4 HPA2 hx3 hLA HL1 HL2;generalize pd.length=pn at*;go_wp2_with fail
  refine HLA.out.mono ?_;rintro e w4 ⟨v,rfl,ho,hg4⟩;obtain⟨p5,c5,rfl,_,_,_⟩:=Bl ho;have hbw4:Below w.heap.size w w4:=hbw3.grown hg4 hbw3.size (fun g hg=>Aw hbw2s (HLT.out g hg));have HO:=Aa (Cm ho hbw3.size);clear ho hg4 HLA HLT;by_cases h:bs.length≤16384
  ·have hI2:¬(16384:Int) < (bs.length:Int):=by omega
   have hE2:Hid (res=true):=Aa (by rw[hE.out];exact Aj h);go_wp2_with fail
   exact bodyPost_ret (v:= .tuple #[.slice p5 bs.length c5,.bool true]) (by simp[results,Tryz.results33,go_sem]) rfl ⟨hbw4,.inl ⟨hE2.out,_,rfl,HO.out⟩⟩
  ·have hI2:(16384:Int) < (bs.length:Int):=by omega
   have hE2:Hid (res=false):=Aa (by rw[hE.out];exact Ai h);go_wp2_with fail
   exact bodyPost_ret (v:= .tuple #[.slice none 0 0,.bool false]) (by simp[results,Tryz.results33,go_sem]) rfl ⟨hbw4,.inr ⟨hE2.out,rfl⟩⟩
theorem Ji5(o:Az)(v0 v1 v2 v4:Value)(w:World)(hp:Dn w v0 v1 v2 v4 o)(hs:Gn o):
 Calls Tryz.prog 12 #[Gq v0 v1 v2 o.hasSig v4] w fun e w'=>e= .returned (.bool (mayO o))∧Below w.heap.size w w':=by
 have hb1:Below w.heap.size w (w.alloc (.cells #[v0,v1,v2,.bool o.hasSig,v4] 27)):=(Ag _ w).alloc (Af _) _;have a0:(w.alloc (.cells #[v0,v1,v2,.bool o.hasSig,v4] 27)).cell? ⟨w.heap.size,0,none⟩=some v0:=by simp
 have a1:(w.alloc (.cells #[v0,v1,v2,.bool o.hasSig,v4] 27)).cell? ⟨w.heap.size,1,none⟩=some v1:=by simp
 have a2:(w.alloc (.cells #[v0,v1,v2,.bool o.hasSig,v4] 27)).cell? ⟨w.heap.size,2,none⟩=some v2:=by simp
 have a3:(w.alloc (.cells #[v0,v1,v2,.bool o.hasSig,v4] 27)).cell? ⟨w.heap.size,3,none⟩=some (.bool o.hasSig):=by simp
 have a4:(w.alloc (.cells #[v0,v1,v2,.bool o.hasSig,v4] 27)).cell? ⟨w.heap.size,4,none⟩=some v4:=by simp
 have HM:=Aa (Jf4 o v0 v1 v2 v4 _ (hp.below hb1) hs);have HB1:=Aa hb1;clear hp hs;go_enter Tryz.func12,Tryz.ntmps12;go_upto_region 1 with fail
 generalize w.alloc (.cells #[v0,v1,v2,.bool o.hasSig,v4] 27)=W1 at*;go_wp2_with fail
 refine HM.out.mono ?_;rintro e w2 ⟨hb2,⟨hE,v,rfl,_⟩|⟨hE,rfl⟩⟩
 ·go_wp2_with fail
  go_ret;rw[hE];exact⟨rfl,HB1.out.trans (hb2.mono HB1.out.size)⟩
 ·go_wp2_with fail
  go_ret;rw[hE];exact⟨rfl,HB1.out.trans (hb2.mono HB1.out.size)⟩
theorem Vi{w:World}{pd:Option Addr}{l:List Az}(h:Bg 1 Fg w pd (dropsOf l)):Er w pd l (dropsOf l):=by
 refine⟨h,by simp[dropsOf],fun i o ho=>?_⟩;have hi:=(Ab.1 ho).1;have e1:Cz (dropsOf l) i=Jh l i:=by
  unfold Cz dropsOf;rw[List.getElem?_map,List.getElem?_range hi];rfl
 rw[e1];unfold Jh;rw[ho];exact Gg l i o _
theorem Jhc{l:List Az}{D:List (List Bool)}{o s:Int}:0≤(Ck l D o s).2∧(Ck l D o s).2≤8:=by
 have ho:∀(i:Nat)(x:Ct),0≤(Hj D i x).2∧(Hj D i x).2≤8:=fun i x=>by
  unfold Hj;cases decide (x.sec < 1)<;>cases (Cz D i)[(x.sec - 1).toNat]?.getD false<;>simp
 have hi:∀(i:Nat)(x:Ct),0≤(Hw l D i x).2∧(Hw l D i x).2≤8:=fun i x=>by
  unfold Hw;cases (x.bind==0)with
  |true=>exact ho i x
  |false=>
   simp only[cond_false];cases findIn (Bc Az.syms l l.length) D x.name with
   |none=>cases (x.bind==2)<;>simp
   |some d=>
    simp only;cases symAt2 l d.obj d.sym with
    |none=>simp
    |some y=>exact ho _ y
 unfold Ck;split
 ·simp
 ·cases symAt2 l o.toNat s.toNat with
  |none=>simp
  |some x=>exact hi _ x
def Ir(l:List Az)(mb:Bool)(entry:ByteArray):Option Iq × Int:=if(Hi l mb).1≠0 then(none,(Hi l mb).1)else Ha l (dropsOf l) (Hi l mb).2 entry
abbrev zG:Array Value:=#[.slice none 0 0,.int .i64 0,.int .i64 0,.slice none 0 0]
def Jdz(r:Option Iq × Int)(w:World)(e:Ending)(w':World):Prop:=∃cs,e= .returned (.tuple #[.agg cs,Fk r.2])∧Gr w' cs r.1∧Below w.heap.size w w'
theorem Na{fn:Func}{p u:Tmp}(h:fn.results= #[.cell p 77,.tmp u])(tmps:Array Value)(w:World)(g:Nat)(v0 v1 v2 v3 b:Value)(hp:tmps.getD p undef= .pointer (some ⟨g,0,none⟩))(hu:tmps.getD u undef=b)
 (hg:w.heap[g]?=some (.cells #[v0,v1,v2,v3] 77 (0,0))):(results fn tmps).run Tryz.prog w= .ok (.tuple #[.agg #[v0,v1,v2,v3],b]) w:=by
 obtain⟨r0,r1,r2,r3⟩:=Cp _ _ _ _ _ _ _ hg;rw[results_cell_tmp h,hp,hu];go_simp
theorem Tf{l:List Az}{mb:Bool}{entry:ByteArray}(h:(Hi l mb).1≠0):Ir l mb entry=(none,(Hi l mb).1):=by unfold Ir;rw[if_pos h]
theorem Rq{l:List Az}{mb:Bool}{entry:ByteArray}(h:(Hi l mb).1=0):Ir l mb entry=Ha l (dropsOf l) (Hi l mb).2 entry:=by unfold Ir;rw[if_neg (by omega)]
theorem Jlu{w:World}{p:Option Addr}{l:List Az}(h:Bg 5 Cg w p l):∀o∈l,∀y∈o.syms,y.name.size≤maxLen:=fun o ho y hy=>by
 obtain⟨i,hi⟩:=Av ho;obtain⟨k,hk⟩:=Av hy;obtain⟨b,off,v0,v1,v2,v4,_,_,_,_,_,_,hp⟩:=h i o hi;obtain⟨p1,c1,_,_,_,_,hq⟩:=hp.2.1;obtain⟨_,_,_,e0,_⟩:=hq k y hk;exact e0.2
theorem Joh{w:World}{p:Option Addr}{l:List Az}{defs:List Bb}(h:Bg 5 Cg w p l)(ht:Oe l defs):∀d∈defs,d.name.size≤maxLen:=fun d hd=>by
 have hap:Iw defs:=ht.sorted.imp fun{a b} hab he=>by rw[he,Gw]at hab;cases hab
 have h1:Hc defs d.name=some d:=(Pz hap).1 hd;rw[ht.find]at h1;have hh:∀b,Ef d.name (hitsIn (Bc Az.syms l l.length) (dropsOf l) d.name b)=some d→d.name.size≤maxLen:=fun b h2=>by
  unfold Ef at h2;cases hq:(hitsIn (Bc Az.syms l l.length) (dropsOf l) d.name b).head? with
  |none=>rw[hq]at h2;cases h2
  |some x=>
   have hm:x∈hitsIn (Bc Az.syms l l.length) (dropsOf l) d.name b:=List.mem_of_mem_head? hq;obtain⟨h3,h4⟩:=List.mem_filter.1 hm;obtain⟨_,o,ho,hx⟩:=Gh.1 (show(x.1,x.2.1,x.2.2)∈_ from h3);unfold Ii at h4;simp only[Bool.and_eq_true]at h4;have e:x.2.2.name=d.name:=Df.1 h4.2.1;rw[←e];exact Jlu h o (Ad ho) x.2.2 (Ad hx)
 unfold findIn at h1;cases hq:Ef d.name (hitsIn (Bc Az.syms l l.length) (dropsOf l) d.name 1)with
 |some d'=>rw[hq]at h1;cases h1;exact hh 1 hq
 |none=>rw[hq]at h1;exact hh 2 h1
theorem Jlo{w:World}{p:Option Addr}{l:List Az}{defs:List Bb}(h:Bg 5 Cg w p l)(hsg:Gi l)(hok:∀o∈l,OkD o)(hlc:l.length≤1000)(ht:Oe l defs):∀m∈namesB l (dropsOf l) defs,m.bd:=fun m hm=>by
 unfold namesB at hm;obtain⟨d,hd,hg⟩:=List.mem_filterMap.1 hm;unfold Ih at hg;split at hg
 ·cases hg
 ·cases hf:findB l (dropsOf l) (Ck l (dropsOf l) d.obj d.sym).1 with
  |none=>rw[hf]at hg;cases hg
  |some t=>
   rw[hf]at hg;cases hg;obtain⟨t1,t2⟩:=Jdh hsg hok hlc hf;exact⟨Joh h ht d hd,t1,t2⟩
theorem Jt.fr{N M:Nat}{Ts:List TypeId}{w w':World}{v:Value}{ys:List Ce}(h:Jt N w v ys)(hf:FrT M Ts w w')(h1:86∉Ts)(h2:5∉Ts)(h3:92∉Ts):Jt N w' v ys:=by
 obtain⟨ns,a,b,c⟩:=h;exact⟨ns,hf.owns a h1,fun n hn=>(b n hn).fr hf h2 h3,c⟩
theorem Wn(p pd pf:Option Addr)(c cd cf:Nat)(l:List Az)(defs:List Bb)(w:World)(h:Bg 5 Cg w p l)(hok:∀o∈l,OkD o)(hD:Er w pd l (dropsOf l))(hdf:Bg 3 Dg w pf defs)(ht:Oe l defs):
 ∀W,Below w.heap.size w W→∀(o:Nat)(s:Int),Bn s→o≤1000000→Calls Tryz.prog 25 #[.slice p l.length c,.agg #[.slice pd (dropsOf l).length cd,.slice pf defs.length cf],.int .i64 (o:Int),.int .i64 s] W (Mq (Ck l (dropsOf l) o s) W):=fun W hW o s hs ho=>
 Jik p pd pf c cd defs.length cf o s l (dropsOf l) defs W (h.below Cg.keeps hW) hok (hD.below hW) (hdf.below Dg.keeps hW) rfl ht.few ht.sorted ht.find (by unfold Bn;omega) hs
theorem Jm4(HPF:Ob)(p pd pf:Option Addr)(c cd cf g0:Nat)(l:List Az)(defs:List Bb)(w:World)(h:Bg 5 Cg w p l)(hok:∀o∈l,OkD o)(hsg:Gi l)(hlc:l.length≤1000)(hD:Er w pd l (dropsOf l))(hdf:Bg 3 Dg w pf defs)(ht:Oe l defs)(hS:Bg 1 Gj w (some ⟨g0,0,none⟩) (Iy l (dropsOf l))):
 Calls Tryz.prog 69 #[.agg #[.slice p l.length c,.slice pd (dropsOf l).length cd,.slice pf defs.length cf,.slice (some ⟨g0,0,none⟩) l.length l.length]] w (Jae (nodesOf l (dropsOf l) (Cl l)) (Hf l (dropsOf l)) w):=by
 have hK:=Jci (D:=dropsOf l) hsg hok hlc;have hv:=Ns h;have hkl:=Qx l (dropsOf l);refine Jiz p pd pf (some ⟨g0,0,none⟩) c _ cd _ cf l.length l (dropsOf l) w hok hsg hlc hS fun W hW i k o s x hi hk hx=>?_;refine Jlw p pd pf (some ⟨g0,0,none⟩) c _ cd _ cf l.length i k l (dropsOf l) o s x W (h.below Cg.keeps hW) hok hsg hlc (hS.below Gj.keeps hW) hi hk hx fun W2 hW2 pr cr hr=>?_;have hsG:=hsg o (Ad hi) s (Ad hk);have e1:Da l (dropsOf l) (i,k,s)=s.rels.map fun r=>(Fz l (dropsOf l) i r).1:=by unfold Da;rw[show Mk ((i,k,s):Sx).2.2=s.rels from Wu hsG]
 have e2:De l (dropsOf l) (i,k,s)=s.rels.map fun r=>(Fz l (dropsOf l) i r).2:=by unfold De;rw[show Mk ((i,k,s):Sx).2.2=s.rels from Wu hsG]
 rw[e1,e2];have hil:=(Ab.1 hi).1;refine Jie _ _ _ _ p pd pf (some ⟨g0,0,none⟩) l.length c _ cd _ cf l.length l.length rfl rfl rfl rfl i pr cr s.rels (Fz l (dropsOf l) i) W2 hr (by have:=hsG.link;omega) fun r hrm W3 hW3=>?_;have hrb:=Jg1 hr r hrm;have hb13:Below w.heap.size w W3:=hW.trans ((hW2.trans (hW3.mono hW2.size)).mono hW.size);have hE:=Jk2 HPF p pd pf (some ⟨g0,0,none⟩) c (dropsOf l).length cd defs.length cf l.length i l (dropsOf l) (Iy l (dropsOf l)) r W3 (fun W4 hW4=>Wn p pd pf c cd cf l defs w h hok hD hdf ht W4 (hb13.trans (hW4.mono hb13.size)) i r.sym hrb.2.2.1 (by omega)) (hS.below Gj.keeps hb13) hK (Le hok hv);rw[hkl]at hE;exact hE
theorem Jm6(HPF:Ob)(p pd pf:Option Addr)(c cd cf g0:Nat)(l:List Az)(defs:List Bb)(w:World)(h:Bg 5 Cg w p l)(hok:∀o∈l,OkD o)(hsg:Gi l)(hlen:l.length≤10)(hD:Er w pd l (dropsOf l))(hdf:Bg 3 Dg w pf defs)(ht:Oe l defs)(hS:Bg 1 Gj w (some ⟨g0,0,none⟩) (Iy l (dropsOf l))):
 Calls Tryz.prog 70 #[.agg #[.slice p l.length c,.slice pd (dropsOf l).length cd,.slice pf defs.length cf,.slice (some ⟨g0,0,none⟩) l.length l.length]] w (Zp (namesB l (dropsOf l) defs) w):=by
 have hK:=Jci (D:=dropsOf l) hsg hok (by omega);have hv:=Ns h;have hdb:=Jgw hlen hok ht;have hN:=Jit HPF p pd pf (some ⟨g0,0,none⟩) c (dropsOf l).length cd cf l.length l (dropsOf l) (Iy l (dropsOf l)) defs w hdf (by have:=ht.few;omega) hdb hS hK (fun o s=>Le hok hv)
  (Wn p pd pf c cd cf l defs w h hok hD hdf ht)
 rw[Qx]at hN;exact hN
theorem Jif(HPF:Ob)(p:Option Addr)(c:Nat)(l:List Az)(mb:Bool)(entry:ByteArray)(w:World)(h:Bg 5 Cg w p l)(hlen:l.length≤10)(hok:mb=true→∀o∈l,OkD o)(hsg:mb=true→Gi l)
 (hres:∀W,Below w.heap.size w W→Calls Tryz.prog 19 #[.slice p l.length c] W fun e w'=>∃n v0 v1,e= .returned (.tuple #[.agg #[v0,v1],Fk n])∧Jb9 l mb w' n v0 v1∧Below W.heap.size W w'):
 Calls Tryz.prog 28 #[.slice p l.length c,.string entry] w (Jdz (Ir l mb entry) w):=by
 have hE:=(Ec w (.cells #[.string entry] 9) (.cells zG 77)).1;have hZ:=(Ec w (.cells #[.string entry] 9) (.cells zG 77)).2.1;have hw0:Below w.heap.size w ((w.alloc (.cells #[.string entry] 9)).alloc (.cells zG 77)):=((Ag _ w).alloc (Af _) _).alloc (by simp) _;replace hE:((w.alloc (.cells #[.string entry] 9)).alloc (.cells zG 77)).heap[w.heap.size]?=_:=hE;replace hZ:((w.alloc (.cells #[.string entry] 9)).alloc (.cells zG 77)).heap[w.heap.size+1]?=_:=hZ;have HH:=Aa fun W (hW:Below w.heap.size w W)=>h.below Cg.keeps hW;have HOK:=Aa hok;have HSG:=Aa hsg;have HRES:=Aa hres;have HVB:=Aa (Ns h);obtain⟨gb,hgb⟩:∃gb,gb=w.heap.size:=⟨_,rfl⟩
 have HGB:=Aa hgb;rw[←hgb]at hE hZ hw0 HH HRES;have HE:=Aa hE;have HZ:=Aa hZ;have HW0:=Aa hw0;obtain⟨out,hout⟩:∃out,out=Ir l mb entry:=⟨_,rfl⟩
 have HOUT:=Aa hout;rw[←hout];obtain⟨ln,hln⟩:∃ln,ln=l.length:=⟨_,rfl⟩
 have HLN:=Aa hln;rw[←hln]at HRES hlen⊢;clear h hok hsg hres hgb hE hZ hw0 hout hln;go_enter Tryz.func28,Tryz.ntmps28;go_upto_region 1 with fail
 generalize (w.alloc (.cells #[.string entry] 9)).alloc (.cells zG 77)=w1 at*;rw[←HGB.out];have hgs:gb+1 < w1.heap.size:=(Ac.1 HZ.out).1;obtain⟨defs,hdefs⟩:∃defs,defs=(Hi l mb).2:=⟨_,rfl⟩
 have HDEFS:=Aa hdefs;obtain⟨dn,hdn⟩:∃dn,dn=(dropsOf l).length:=⟨_,rfl⟩
 have HDN:=Aa hdn;obtain⟨fn,hfn⟩:∃fn,fn=defs.length:=⟨_,rfl⟩
 have HFN:=Aa hfn;by_cases hrn:(Hi l mb).1=0
 ·have HBG:=Aa (Rq (entry:=entry) hrn)
  have HRS:Hid (Calls Tryz.prog 19 #[.slice p ln c] w1 fun e w'=>∃(p0:Option Addr)(c0:Nat)(p1:Option Addr)(c1:Nat),e= .returned (.tuple #[.agg #[.slice p0 dn c0,.slice p1 fn c1],.nilIface])∧mb=true∧Oe l defs∧Bg 1 Fg w' p0 (dropsOf l)∧Bg 3 Dg w' p1 defs∧Below w1.heap.size w1 w'):=Aa ((HRES.out w1 HW0.out).mono fun e w' hE=>by
   obtain⟨n,v0,v1,h1,h2,h3⟩:=hE;obtain⟨e1,h4⟩:=Jg3 (by rw[←HLN.out];exact hlen) HOK.out h2;rcases h4 with⟨h4,_⟩|⟨_,hmb,hto,⟨p0,c0,e2,_,_,_,hh0⟩,⟨p1,c1,e3,_,_,_,hh1⟩⟩
   ·rw[e1]at h4;exact absurd hrn h4
   ·refine⟨p0,c0,p1,c1,?_,hmb,by rw[hdefs];exact hto,hh0,by rw[hdefs];exact hh1,h3⟩;rw[h1,e2,e3,e1,hrn,hdn,hfn,hdefs]
    rfl)
  clear hdefs hdn hfn hrn HRES
  go_upto_region 2 with(first|(go_at_call 19
                               refine HRS.out.mono ?_
                               rintro e w2 ⟨p0,c0,p1,c1,rfl,hmb,hto,hh0,hh1,hb2⟩)|fail)
  have HTO:=Aa hto;have hok:=HOK.out hmb;have hsg:=HSG.out hmb;have hT:=Ah w2 (.cells #[.slice p0 dn c0,.slice p1 fn c1] 49);have hb3:Below w2.heap.size w2 (w2.alloc (.cells #[.slice p0 dn c0,.slice p1 fn c1] 49)):=(Ag _ w2).alloc (Af _) _;generalize w2.alloc (.cells #[.slice p0 dn c0,.slice p1 fn c1] 49)=w3 at*;have hh03:=hh0.below Fg.keeps hb3;have hh13:=hh1.below Dg.keeps hb3;have hb13:=hb2.trans (hb3.mono hb2.size);have hb03:Below gb w w3:=HW0.out.trans (hb13.mono (by omega));have hE3:=(hb13.block gb (by omega)).trans HE.out;have hZ3:=(hb13.block (gb+1) hgs).trans HZ.out;have hH3:=HH.out w3 hb03;have hD3:=Vi hh03;have hg6:w2.heap.size < w3.heap.size:=(Ac.1 hT).1;have hg61:gb+1 < w3.heap.size:=by have:=hb13.size;omega
  generalize w2.heap.size=g6 at*;obtain⟨⟨t0,t1⟩,_⟩:=Bz _ _ _ _ _ hT
  have HNB:Hid (Calls Tryz.prog 68 #[.slice p ln c,.agg #[.slice p0 dn c0,.slice p1 fn c1]] w3 fun e w'=>∃g0,e= .returned (.agg #[.slice p ln c,.slice p0 dn c0,.slice p1 fn c1,.slice (some ⟨g0,0,none⟩) ln ln])∧Bg 1 Gj w' (some ⟨g0,0,none⟩) (Iy l (dropsOf l))∧Below w3.heap.size w3 w'):=Aa (by
   have h:=Joc p p0 p1 c c0 defs.length c1 l (dropsOf l) w3 hH3 hok hsg (by rw[←HLN.out];omega) hD3 (Wn p p0 p1 c c0 c1 l defs w3 hH3 hok hD3 hh13 hto);unfold Jlm at h;rw[←HLN.out,←HDN.out,←HFN.out]at h
   exact h)
  have HB03:=Aa hb03;have HE3:=Aa hE3;have HZ3:=Aa hZ3;have HH03:=Aa hh03;have HH13:=Aa hh13;have HOKL:=Aa hok;have HSGL:=Aa hsg;have HMB:=Aa hmb;clear hT hb3 hb2 hh0 hh1 hh03 hh13 hb13 hb03 hE3 hZ3 hH3 hD3 hok hsg hto hmb HOK HSG
  go_upto_region 5 with(first|(go_at_call 68
                               refine HNB.out.mono ?_
                               rintro e w4 ⟨g0,rfl,hS4,hb4⟩)|fail)
  have hB5:=Ah w4 (.cells #[.slice p ln c,.slice p0 dn c0,.slice p1 fn c1,.slice (some ⟨g0,0,none⟩) ln ln] 154);have hb45:Below w4.heap.size w4 (w4.alloc (.cells #[.slice p ln c,.slice p0 dn c0,.slice p1 fn c1,.slice (some ⟨g0,0,none⟩) ln ln] 154)):=(Ag _ w4).alloc (Af _) _;generalize w4.alloc (.cells #[.slice p ln c,.slice p0 dn c0,.slice p1 fn c1,.slice (some ⟨g0,0,none⟩) ln ln] 154)=w5 at*;have hS5:=hS4.below Gj.keeps hb45;have hb35:=hb4.trans (hb45.mono hb4.size);have hb05:Below gb w w5:=HB03.out.trans (hb35.mono (by omega));have hE5:=(hb35.block gb (by omega)).trans HE3.out;have hZ5:=(hb35.block (gb+1) hg61).trans HZ3.out;have hH5:=HH.out w5 hb05;have hh05:=HH03.out.below Fg.keeps hb35;have hh15:=HH13.out.below Dg.keeps hb35;have hg8:w4.heap.size < w5.heap.size:=(Ac.1 hB5).1;have hg51:gb+1 < w5.heap.size:=by have:=hb35.size;omega
  generalize w4.heap.size=g8 at*;obtain⟨y0,y1,y2,y3⟩:=Cp _ _ _ _ _ _ _ hB5;have HND:=Jm4 HPF p p0 p1 c c0 c1 g0 l defs w5 hH5 HOKL.out HSGL.out (by rw[←HLN.out];omega) (Vi hh05) hh15 HTO.out hS5;have HNMS:=Aa fun W (hW:Below w5.heap.size w5 W)=>Jm6 HPF p p0 p1 c c0 c1 g0 l defs W (hH5.below Cg.keeps hW) HOKL.out HSGL.out (by rw[←HLN.out];exact hlen) (Vi (hh05.below Fg.keeps hW)) (hh15.below Dg.keeps hW) HTO.out (hS5.below Gj.keeps hW);have HNBD:=Aa (Jlo hH5 HSGL.out HOKL.out (by rw[←HLN.out];omega) HTO.out);unfold Jae at HND;rw[←HLN.out,←HDN.out,←HFN.out]at HND HNMS;have HB05:=Aa hb05;have HE5:=Aa hE5;have HZ5:=Aa hZ5;have HB5:=Aa hB5;obtain⟨eb,heb⟩:∃eb,eb=Hf l (dropsOf l):=⟨_,rfl⟩
  rw[←heb]at HND;have HEB:=Aa heb;clear hB5 hb45 hb4 hS4 hS5 hb35 hb05 hE5 hZ5 hH5 hh05 hh15 t0 t1 heb HNB;by_cases hec:eb=0
  ·subst hec
   have HNX:Hid (Calls Tryz.prog 69 #[.agg #[.slice p ln c,.slice p0 dn c0,.slice p1 fn c1,.slice (some ⟨g0,0,none⟩) ln ln]] w5 fun e w'=>∃pn nn cn,e= .returned (.tuple #[.slice pn nn cn,.nilIface])∧Jt w5.heap.size w' (.slice pn nn cn) (nodesOf l (dropsOf l) (Cl l))∧Below w5.heap.size w5 w'):=Aa (HND.mono fun e w' hE=>by
    obtain⟨v,h1,h2,h3⟩:=hE;rcases h2 with⟨_,h2⟩|⟨h2,_⟩
    ·have h4:=h2.isL;obtain⟨pn,cn,rfl,_⟩:=Jo5 h4;exact⟨pn,_,cn,h1,h2,h3⟩
    ·exact absurd rfl h2)
   clear HND
   go_upto_region 6 with(first|(go_at_call 69
                                refine HNX.out.mono ?_
                                rintro e w6 ⟨pn,nn,cn,rfl,hnl,hb6⟩)|fail)
   have HB6:=Aa ((hb6.block g8 hg8).trans HB5.out);have HE6:=Aa ((hb6.block gb (by omega)).trans HE5.out);have HZ6:=Aa ((hb6.block (gb+1) hg51).trans HZ5.out);have HB06:=Aa (HB05.out.trans (hb6.mono (by omega)));have HNL:=Aa hnl;have hg81:g8 < w6.heap.size:=(Ac.1 HB6.out).1;have hg61':gb+1 < w6.heap.size:=(Ac.1 HZ6.out).1;have HNM:=HNMS.out w6 hb6;unfold Zp at HNM
   have HNMX:Hid (Calls Tryz.prog 70 #[.agg #[.slice p ln c,.slice p0 dn c0,.slice p1 fn c1,.slice (some ⟨g0,0,none⟩) ln ln]] w6 fun e w'=>∃pm cm,e= .returned (.slice pm (namesB l (dropsOf l) defs).length cm)∧Bg 3 ENm w' pm (namesB l (dropsOf l) defs)∧w'.ownsRow w6.heap.size 96 3 (.slice pm (namesB l (dropsOf l) defs).length cm) (namesB l (dropsOf l) defs).length ((namesB l (dropsOf l) defs).flatMap nmC)∧Below w6.heap.size w6 w'):=Aa (HNM.mono fun e w' hE=>by
    obtain⟨v,h1,h2,h3⟩:=hE;have h4:=Jaa h2 HNBD.out;have h5:=h4;obtain⟨pm,cm,rfl,_,_,_,h6⟩:=h5
    exact⟨pm,cm,h1,h6,h2,h3⟩)
   clear y0 y1 y2 y3 hb6 hnl HNM HNMS HNX;obtain⟨y0,y1,y2,y3⟩:=Cp _ _ _ _ _ _ _ HB6.out;have hxl:(namesB l (dropsOf l) defs).length≤1000000:=by
    unfold namesB;have h1:=List.length_filterMap_le (Ih l (dropsOf l)) defs;have h2:=HTO.out.few;omega
   obtain⟨xs,hxs⟩:∃xs,xs=namesB l (dropsOf l) defs:=⟨_,rfl⟩
   have HXS:=Aa hxs;rw[←hxs]at HNMX hxl;obtain⟨xn,hxn⟩:∃xn,xn=xs.length:=⟨_,rfl⟩
   have HXN:=Aa hxn;rw[←hxn]at HNMX hxl;clear hxs hxn
   go_upto_region 9 with(first|(go_at_call 70
                                refine HNMX.out.mono ?_
                                rintro e w7 ⟨pm,cm,rfl,hml,hmi,hb7⟩)|fail)
   have HZ7:=Aa ((hb7.block (gb+1) hg61').trans HZ6.out);have hE7:=(hb7.block gb (by omega)).trans HE6.out;have HB07:=Aa (HB06.out.trans (hb7.mono (by omega)));have HNL7:=Aa (HNL.out.below hb7);have HML:=Aa hml;have HMI:=Aa hmi;have e7:w7.cell? ⟨gb,0,none⟩=some (.string entry):=(Am w7 gb 0 _ _ (0,0) hE7).trans rfl;have HIX:=Jga pm cm gb xs entry w7 hml (by rw[←HXN.out];exact hxl) e7;rw[←HXN.out]at HIX;obtain⟨ix,hix⟩:∃ix,ix=Lh entry xs:=⟨_,rfl⟩
   rw[←hix]at HIX;have HIXX:=Aa HIX;have HFIND:=Aa (Xo entry xs);rw[←hix]at HFIND;have hg71:gb+1 < w7.heap.size:=(Ac.1 HZ7.out).1;clear y0 y1 y2 y3 hb7 hml hmi hE7 HIX hix HNMX;go_wp2_with fail
   refine HIXX.out.mono ?_;rintro e w8 ⟨rfl,hb8⟩;have HZ8:=Aa ((hb8.block (gb+1) hg71).trans HZ7.out);have HB08:=Aa (HB07.out.trans (hb8.mono (by omega)));have HNL8:=Aa (HNL7.out.below hb8);have HMI8:=Aa (Bd HMI.out hb8);have HML8:=Aa (HML.out.below ENm.keeps hb8);have hg81':gb+1 < w8.heap.size:=(Ac.1 HZ8.out).1;clear e7 hb8;obtain⟨z0,z1,z2,z3⟩:=Cp _ _ _ _ _ _ _ HZ8.out;have f0:=Ap w8 (gb+1) 0 _ _ HZ8.out;have f1:=Ap w8 (gb+1) 1 _ _ HZ8.out;have f2:=Ap w8 (gb+1) 2 _ _ HZ8.out;have f3:=Ap w8 (gb+1) 3 _ _ HZ8.out;rcases HFIND.out with⟨hneg,hfn0⟩|⟨i,x,hieq,hxi,hfx⟩
   ·have hOUT:Hid (out=(none,5)):=Aa (by rw[HOUT.out,HBG.out,←HDEFS.out];unfold Ha;rw[←HEB.out,if_neg (by omega),←HXS.out,hfn0]);have hset:=Jl (.slice none 0 0) (.int .i64 0) (.int .i64 0) (.slice none 0 0) (show gb≤gb+1 by omega) HZ8.out;have HST:=Aa hset;clear hset hfn0;go_wp2_with fail
    rw[hOUT.out];exact bodyPost_ret (Na rfl _ _ _ _ _ _ _ _ (by rfl) (by rfl) HST.out.1) rfl ⟨zG,rfl,rfl,by rw[←HGB.out];exact HB08.out.trans (HST.out.2.below (by omega))⟩
   ·subst hieq;have hil:=(Ab.1 hxi).1;obtain⟨bm,om,x',hpm,hx',m0,m1,m2⟩:=HML8.out.at_ (i:=i) hil;obtain rfl:x'=x:=by rw[hxi]at hx';cases hx';rfl
    subst hpm;have m1c:=m1.1;have m2c:=m2.1;have hOUT:Hid (out=(some ⟨nodesOf l (dropsOf l) (Cl l),x'.to_,x'.at_,xs⟩,0)):=Aa (by rw[HOUT.out,HBG.out,←HDEFS.out];unfold Ha;rw[←HEB.out,if_neg (by omega),←HXS.out,hfx]);have hset:=Jl (.slice pn nn cn) (.int .i64 x'.to_) (.int .i64 x'.at_) (.slice (some ⟨bm,om,none⟩) xn cm) (show gb≤gb+1 by omega) HZ8.out;have HST:=Aa hset;have j1:(i:Int) < (xn:Int):=by rw[HXN.out];omega
    have j0:(0:Int)≤(i:Int):=by omega
    have j2:¬(i:Int) < 0:=by omega
    clear hset hx' m0 m1 m2 hfx hxi hil;go_upto_region 12 with fail
    go_still_tail 13,(by kernel_rfl)
    go_wp2_with fail
    rw[hOUT.out];have hnf:=(HNL8.out.fr HST.out.2 (by decide) (by decide) (by decide)).isL;have hmf:=HST.out.2.owns HMI8.out (by decide);have hmi:=Jaa (by rw[←HXN.out];exact hmf) (by rw[HXS.out];exact HNBD.out);exact bodyPost_ret (Na rfl _ _ _ _ _ _ _ _ (by rfl) (by rfl) HST.out.1) rfl ⟨_,rfl,⟨_,_,rfl,hnf.below Jg.keeps (Ag _ _).drew,hmi.below ENm.keeps (Ag _ _).drew⟩,by rw[←HGB.out];exact(HB08.out.trans (HST.out.2.below (by omega))).drew⟩
  ·have HNX:Hid (Calls Tryz.prog 69 #[.agg #[.slice p ln c,.slice p0 dn c0,.slice p1 fn c1,.slice (some ⟨g0,0,none⟩) ln ln]] w5 fun e w'=>e= .returned (.tuple #[.slice none 0 0,.iface 36 (.int .i64 eb)])∧Below w5.heap.size w5 w'):=Aa (HND.mono fun e w' hE=>by
    obtain⟨v,h1,h2,h3⟩:=hE;rcases h2 with⟨h2,_⟩|⟨_,rfl⟩
    ·exact absurd h2 hec
    ·exact⟨by rw[h1];unfold Fk;rw[if_neg hec],h3⟩)
   have hOUT:Hid (out=(none,eb)):=Aa (by rw[HOUT.out,HBG.out];unfold Ha;rw[←HEB.out,if_pos hec]);have HEC:=Aa hec;clear HND hec
   go_upto_region 6 with(first|(go_at_call 69
                                refine HNX.out.mono ?_
                                rintro e w6 ⟨rfl,hb6⟩)|fail)
   have HZ6:=Aa ((hb6.block (gb+1) hg51).trans HZ5.out);have HB06:=Aa (HB05.out.trans (hb6.mono (by omega)));have hg61':gb+1 < w6.heap.size:=(Ac.1 HZ6.out).1;clear y0 y1 y2 y3 hb6;obtain⟨z0,z1,z2,z3⟩:=Cp _ _ _ _ _ _ _ HZ6.out;have f0:=Ap w6 (gb+1) 0 _ _ HZ6.out;have f1:=Ap w6 (gb+1) 1 _ _ HZ6.out;have f2:=Ap w6 (gb+1) 2 _ _ HZ6.out;have f3:=Ap w6 (gb+1) 3 _ _ HZ6.out;have hset:=Jl (.slice none 0 0) (.int .i64 0) (.int .i64 0) (.slice none 0 0) (show gb≤gb+1 by omega) HZ6.out;have HST:=Aa hset;clear hset;go_wp2_with fail
   rw[hOUT.out];exact bodyPost_ret (Na rfl _ _ _ _ _ _ _ _ (by rfl) (by rfl) HST.out.1) rfl ⟨zG,by unfold Fk;rw[if_neg HEC.out];rfl,rfl,by rw[←HGB.out];exact HB06.out.trans (HST.out.2.below (by omega))⟩
 ·have hOUT:Hid (out=(none,(Hi l mb).1)):=Aa (by rw[HOUT.out];exact Tf hrn);obtain⟨rn,hrn2⟩:∃rn,rn=(Hi l mb).1:=⟨_,rfl⟩
  rw[←hrn2]at hOUT hrn
  have HRS:Hid (Calls Tryz.prog 19 #[.slice p ln c] w1 fun e w'=>e= .returned (.tuple #[.agg #[.slice none 0 0,.slice none 0 0],.iface 36 (.int .i64 rn)])∧Below w1.heap.size w1 w'):=Aa ((HRES.out w1 HW0.out).mono fun e w' hE=>by
   obtain⟨n,v0,v1,h1,h2,h3⟩:=hE;obtain⟨e1,h4⟩:=Jg3 (by rw[←HLN.out];exact hlen) HOK.out h2;rw[←hrn2]at e1;rcases h4 with⟨h4,e2,e3⟩|⟨h4,_⟩
   ·exact⟨by rw[h1,e2,e3,e1];unfold Fk;rw[if_neg hrn],h3⟩
   ·rw[e1]at h4;exact absurd h4 hrn)
  have HRN:=Aa hrn;clear hdefs hdn hfn hrn hrn2 HRES
  go_upto_region 2 with(first|(go_at_call 19
                               refine HRS.out.mono ?_
                               rintro e w2 ⟨rfl,hb2⟩)|fail)
  have hb3:Below w1.heap.size w1 (w2.alloc (.cells #[.slice none 0 0,.slice none 0 0] 49)):=hb2.alloc hb2.size _;generalize w2.alloc (.cells #[.slice none 0 0,.slice none 0 0] 49)=w3 at*;generalize w2.heap.size=g6 at*;have HZ3:=Aa ((hb3.block (gb+1) hgs).trans HZ.out);have HB03:=Aa (HW0.out.trans (hb3.mono (by omega)));have hg61:gb+1 < w3.heap.size:=(Ac.1 HZ3.out).1;clear hb2 hb3;obtain⟨z0,z1,z2,z3⟩:=Cp _ _ _ _ _ _ _ HZ3.out;have f0:=Ap w3 (gb+1) 0 _ _ HZ3.out;have f1:=Ap w3 (gb+1) 1 _ _ HZ3.out;have f2:=Ap w3 (gb+1) 2 _ _ HZ3.out;have f3:=Ap w3 (gb+1) 3 _ _ HZ3.out;have hset:=Jl (.slice none 0 0) (.int .i64 0) (.int .i64 0) (.slice none 0 0) (show gb≤gb+1 by omega) HZ3.out;have HST:=Aa hset;clear hset;go_wp2_with fail
  rw[hOUT.out];exact bodyPost_ret (Na rfl _ _ _ _ _ _ _ _ (by rfl) (by rfl) HST.out.1) rfl ⟨zG,by unfold Fk;rw[if_neg HRN.out];rfl,rfl,by rw[←HGB.out];exact HB03.out.trans (HST.out.2.below (by omega))⟩
end Go.Proofs.YteopgmieindojaaGreat
