/- Parts of a proof. -/
import Derived.Test.YteopgmieindojaaGreatGX20
import Derived.Test.YteopgmieindojaaGreatGX14
import Derived.Test.YteopgmieindojaaGreatGX13
import Derived.Test.YteopgmieindojaaGreatGX08
import Derived.Test.YteopgmieindojaaGreatGX03
set_option maxRecDepth 1000000
set_option maxHeartbeats 8000000
namespace Go.Proofs.YteopgmieindojaaGreat
open Go.RowKit
def Jt(N:Nat)(w:World)(v:Value)(ys:List Ce):Prop:=∃ns:List Bp,w.ownsRow N 86 14 v ys.length (ns.flatMap Bp.cells)∧(∀n∈ns,n.ok N w)∧ns.map Bp.x=ys
theorem Jt.below{N:Nat}{w w':World}{v:Value}{ys:List Ce}(h:Jt N w v ys)(hb:Below w.heap.size w w'):Jt N w' v ys:=by
 obtain⟨ns,h1,h2,h3⟩:=h;exact⟨ns,Bd h1 hb,fun n hn=>(h2 n hn).below hb,h3⟩
theorem Jt.nil(N:Nat)(w:World):Jt N w (.slice none 0 0) []:=⟨[],Aq _ _ _ _,(fun n hn=>absurd hn (by simp)),rfl⟩
theorem Jt.isL{N:Nat}{w:World}{v:Value}{ys:List Ce}(h:Jt N w v ys):IsL 14 Jg w v ys:=by
 obtain⟨ns,h1,h2,h3⟩:=h;have hl:ns.length=ys.length:=by rw[←h3,List.length_map]
 rw[←hl]at h1;rw[←h3];exact Jay h1 h2
def Jae(ys:List Ce)(n:Int)(w:World)(e:Ending)(w':World):Prop:=∃v,e= .returned (.tuple #[v,Fk n])∧(n=0∧Jt w.heap.size w' v ys∨n≠0∧v= .slice none 0 0)∧Below w.heap.size w w'
theorem Jbt{a b:List Int}(h:Bw a≠0):Bw (a++b)=Bw a:=by rw[Dx,if_neg h]
theorem Ji1{l:List Az}{D:List (List Bool)}{i k:Nat}{o:Az}{s:Ca}(hi:l[i]?=some o)(hk:o.secs[k]?=some s)(h0:Bw ((Bo Az.secs l i k).flatMap (Kr l D))=0)(hp:Ch D (i,k,s)≠ [])(hc:Bw (De l D (i,k,s))≠0):Hf l D=Bw (De l D (i,k,s)):=by
 obtain⟨rest,e,_⟩:=Pi (D:=D) hi hk;unfold Hf;rw[e,List.flatMap_append,Dx,if_pos h0,List.flatMap_cons];have h1:∃more,Kr l D (i,k,s)=De l D (i,k,s)++more:=by
  unfold Kr;cases hq:Ch D (i,k,s)with
  |nil=>exact absurd hq hp
  |cons p ps=>exact⟨_,by rw[List.flatMap_cons]⟩
 obtain⟨more,h1⟩:=h1;rw[h1,List.append_assoc,Jbt hc]
theorem Jgh{l:List Az}{D:List (List Bool)}{x:Sx}(hc:Bw (De l D x)=0):Bw (Kr l D x)=0:=by
 unfold Kr
 induction Ch D x with
 |nil=>rfl
 |cons p ps ih=>rw[List.flatMap_cons,Dx,if_pos hc];exact ih
theorem Jiz(p q1 q2 ps:Option Addr)(c m1 d1 m2 d2 cs:Nat)(l:List Az)(D:List (List Bool))(w:World)(hok:∀o∈l,OkD o)(hsg:Gi l)(hlc:l.length≤1000)(hS:Bg 1 Gj w ps (Iy l D))
 (hN:∀W,Below w.heap.size w W→∀(i k:Nat)(o:Az)(s:Ca)(x:PcD),l[i]?=some o→o.secs[k]?=some s→x∈piecesOf s→Calls Tryz.prog 115 #[.agg #[.slice p l.length c,.slice q1 m1 d1,.slice q2 m2 d2,.slice ps l.length cs],.int .i64 (i:Int),.int .i64 ((k:Int)+1),.agg #[.int .i64 x.at_,.int .i64 x.size]] W (Jg6 (mkN l D (i,k,s) x) (Bw (De l D (i,k,s))) W)):
 Calls Tryz.prog 69 #[.agg #[.slice p l.length c,.slice q1 m1 d1,.slice q2 m2 d2,.slice ps l.length cs]] w (Jae (nodesOf l D (Cl l)) (Hf l D) w):=by
 have ha:Below w.heap.size w (w.alloc (.cells #[.slice p l.length c,.slice q1 m1 d1,.slice q2 m2 d2,.slice ps l.length cs] 154)):=(Ag _ w).alloc (Af _) _;have hB:=Ah w (.cells #[.slice p l.length c,.slice q1 m1 d1,.slice q2 m2 d2,.slice ps l.length cs] 154);obtain⟨i0,hi,hz0,hz1,hz2⟩:=info_parts Tryz.infoNode;have HI:=Aa hi;have H0:=Aa hz0;have H1:=Aa hz1;have H2:=Aa hz2;have HS:=Aa fun W (hW:Below w.heap.size w W)=>hS.below Gj.keeps hW;have HNO:=Aa hN;have HSG:=Aa hsg;have HOK:=Aa hok;have HFEW:=Aa (Nd (D:=D) hsg hok);have HKN:Hid ((Iy l D).length=l.length):=Aa (Qx l D);have HA:=Aa ha;generalize hln:l.length=ln at*;have HLN:=Aa hln;obtain⟨gb,hgb⟩:∃gb,gb=w.heap.size:=⟨_,rfl⟩
 have HGB:=Aa hgb;rw[←hgb]at hB HA HS HNO;clear hi hz0 hz1 hz2 hok hsg hS hN ha hln hgb;go_enter Tryz.func69,Tryz.ntmps69;go_upto_region 1 with fail
 generalize w.alloc (.cells #[.slice p ln c,.slice q1 m1 d1,.slice q2 m2 d2,.slice ps ln cs] 154)=w1 at*;rw[←HGB.out];obtain⟨y0,y1,y2,y3⟩:=Cp _ _ _ _ _ _ _ hB;go_wp2_with fail
 go_loopw [4,16,5,6,7,8,10,11,12] (fun r4 r16 _ _ _ _ _ _ _ wr=>∃i:Nat,r16= .int .i64 (i:Int)∧i≤ln∧Jt gb wr r4 (nodesOf l D (Bc Az.secs l i))∧Bw ((Bc Az.secs l i).flatMap (Kr l D))=0∧wr.heap[gb]?=some (.cells #[.slice p ln c,.slice q1 m1 d1,.slice q2 m2 d2,.slice ps ln cs] 154 (0,0))∧Below gb w wr) (fun _ r16 _ _ _ _ _ _ _ _=>ln - (intOf r16).toNat)
 case atStart=>exact⟨0,rfl,Ak _,Jt.nil _ _,rfl,hB,HA.out⟩
 case round=>
  obtain⟨i,rfl,hi,hR,hz,hBr,hb⟩:=hrel;have HR:=Aa hR;have HZ:=Aa hz;clear hR hz y0 y1 y2 y3;by_cases hlt:i < ln
  ·obtain⟨o,ho⟩:∃o,l[i]?=some o:=⟨_,Ae (by rw[HLN.out];exact hlt)⟩
   have HO:=Aa ho;have hql:=(HOK.out o (Ad ho)).few.1;obtain⟨g,og,row',hpe,hrow',v,hcv',pr,cr,rfl,_,_,_,hr⟩:=(HS.out w (by rw[HGB.out];exact Ag _ _)).at_ (i:=i) (by rw[HKN.out];exact hlt);subst hpe;have hrow2:row'=o.secs.mapIdx (Iu l D i):=by
    unfold Iy at hrow';rw[List.getElem?_mapIdx,ho]at hrow';cases hrow';rfl
   have hrl:row'.length=o.secs.length:=by rw[hrow2,List.length_mapIdx]
   have HROW:=Aa hrow2;have HRW:=Aa hr;have HRL:=Aa hrl;rw[Nat.mul_one]at hcv';have hcv:=Ax (by rw[←HGB.out];exact hb) hcv';obtain⟨ql,hqn⟩:∃ql,ql=o.secs.length:=⟨_,rfl⟩
   have HQN:=Aa hqn;rw[hrl,←hqn]at hcv;rw[←hqn]at hql;obtain⟨y0,y1,y2,y3⟩:=Cp _ _ _ _ _ _ _ hBr;have j1:(i:Int) < (ln:Int):=by omega
   have j0:(0:Int)≤(i:Int):=by omega
   have HBR:=Aa hBr;have HBW:=Aa hb;clear ho hr hrow' hrow2 hrl hqn hBr hb hcv';generalize hwo:wr=wo at*;clear hwo;go_wp2_with fail
   go_loopw [4,23,7,8,10,11,12] (fun r4 r23 _ _ _ _ _ wq=>∃q:Nat,r23= .int .i64 (q:Int)∧q≤ql∧Jt gb wq r4 (nodesOf l D (Bo Az.secs l i q))∧Bw ((Bo Az.secs l i q).flatMap (Kr l D))=0∧wq.heap[gb]?=some (.cells #[.slice p ln c,.slice q1 m1 d1,.slice q2 m2 d2,.slice (some ⟨g,og,none⟩) ln cs] 154 (0,0))∧Below gb w wq) (fun _ r23 _ _ _ _ _ _=>ql - (intOf r23).toNat)
   case atStart=>exact⟨0,rfl,Ak _,by rw[Eb];exact HR.out,by rw[Eb];exact HZ.out,HBR.out,HBW.out⟩
   case round=>
    obtain⟨q,rfl,hq,hR,hz,hBr,hb⟩:=hrel;have HR2:=Aa hR;have HZ2:=Aa hz;clear hR hz y0 y1 y2 y3 hcv;by_cases hlt2:q < ql
    ·obtain⟨s,hs⟩:∃s,o.secs[q]?=some s:=⟨_,Ae (by rw[←HQN.out];exact hlt2)⟩
     have HSS:=Aa hs;obtain⟨g2,o2,x',hpe2,hx',⟨v2,hc0',pp,cp,rfl,hpc1,hpc2,hpc3,hpl⟩,hc1',hc2',hc3'⟩:=HRW.out.at_ (i:=q) (by rw[HRL.out,←HQN.out];exact hlt2);obtain rfl:x'=Iu l D i q s:=by rw[HROW.out,List.getElem?_mapIdx,hs]at hx';cases hx';rfl
     subst hpe2;have hbW:Below w.heap.size w wr:=by rw[←HGB.out];exact hb
     have hc0:=Ax hbW hc0';have hc1:=Ax hbW hc1';have hc2:=Ax hbW hc2';have hc3:=Ax hbW hc3';obtain⟨gr,hgr⟩:∃gr,gr=(Iu l D i q s).group:=⟨_,rfl⟩
     obtain⟨nm,hnm⟩:∃nm,nm=(Iu l D i q s).named:=⟨_,rfl⟩
     obtain⟨fst,hfst⟩:∃fst,fst=(Iu l D i q s).first:=⟨_,rfl⟩
     obtain⟨pcs,hpcs⟩:∃pcs,pcs=Ch D (i,q,s):=⟨_,rfl⟩
     have hpcs2:(Iu l D i q s).pcs=pcs:=hpcs.symm;have HPCS:=Aa hpcs;rw[hpcs2]at hc0 hpl;rw[←hgr]at hc2;rw[←hnm]at hc3;rw[←hfst]at hc1;have HPL:=Aa hpl;obtain⟨pn,hpn⟩:∃pn,pn=pcs.length:=⟨_,rfl⟩
     have HPN:=Aa hpn;rw[←hpn]at hc0;have hpn16:pn≤16384:=by
      rw[hpn,hpcs];rcases Jlp (D:=D) HSG.out HO.out hs with h|h
      ·exact h.few
      ·rw[h];exact Ak _
     have HHAS:Hid (pcs≠ []→pcs=piecesOf s):=Aa fun h=>by
      rw[hpcs]at h⊢;unfold Ch at h⊢;cases hq:hasN D (i,q,s)with
      |true=>rfl
      |false=>rw[hq]at h;exact absurd rfl h
     have hgr2:gb < wr.heap.size:=(Ac.1 hBr).1;have hN2:=Ah wr (.cells #[.slice pp pn cp,.int .i64 fst,.int .i64 gr,.bool nm] 211);have hb2:Below wr.heap.size wr (wr.alloc (.cells #[.slice pp pn cp,.int .i64 fst,.int .i64 gr,.bool nm] 211)):=(Ag _ wr).alloc (Af _) _;have j4:(q:Int) < (ql:Int):=by omega
     have j5:(0:Int)≤(q:Int):=by omega
     clear hs hx' hc0' hc1' hc2' hc3' hbW hgr hnm hfst hpcs hpcs2 hpl hpn hpc1 hpc2 hpc3;go_upto_region 8 with fail
     generalize wr.alloc (.cells #[.slice pp pn cp,.int .i64 fst,.int .i64 gr,.bool nm] 211)=w2 at*;have HR3:=Aa (HR2.out.below hb2);have HB2:=Aa ((hb2.block gb hgr2).trans hBr);have HBB:=Aa (hb.trans (hb2.mono (Ar hgr2)));have u0:w2.cell? ⟨wr.heap.size,0,none⟩=some (.slice pp pn cp):=(Am w2 wr.heap.size 0 _ _ (0,0) hN2).trans rfl;clear hc0 hc1 hc2 hc3 hBr hb hb2 hN2 HR2;generalize wr.heap.size=g8 at*;go_wp2_with fail
     generalize hwo2:wr=wo2 at*;clear hwo2;go_loopw [4,31,10,11,12] (fun r4 r31 _ _ _ wx=>∃j:Nat,r31= .int .i64 (j:Int)∧j≤pn∧Jt gb wx r4 (nodesOf l D (Bo Az.secs l i q)++(pcs.take j).map (mkN l D (i,q,s)))∧(0 < j→Bw (De l D (i,q,s))=0)∧wx.heap[gb]?=some (.cells #[.slice p ln c,.slice q1 m1 d1,.slice q2 m2 d2,.slice (some ⟨g,og,none⟩) ln cs] 154 (0,0))∧Below gb w wx) (fun _ r31 _ _ _ _=>pn - (intOf r31).toNat)
     case atStart=>exact⟨0,rfl,Ak _,by simpa using HR3.out,fun h=>absurd h (Nat.lt_irrefl _),HB2.out,HBB.out⟩
     case round=>
      obtain⟨j,rfl,hj,hR,hz3,hBr,hb⟩:=hrel;have HRX:=Aa hR;have HZ3:=Aa hz3;clear hR hz3 u0;by_cases hjl:j < pn
      ·obtain⟨b5,o5,x,hp5,hx,hx0,hx1⟩:=HPL.out.at_ (i:=j) (by rw[←HPN.out];exact hjl);subst hp5;have hbW:Below w.heap.size w wr:=by rw[←HGB.out];exact hb
       have x0:=Ax hbW hx0.1;have x1:=Ax hbW hx1.1;have HX:=Aa hx;have hxm:x∈piecesOf s:=by
        have h1:=Ad hx;have h2:=HHAS.out (fun e=>by rw[e]at h1;cases h1);rw[h2]at h1;exact h1
       have HXM:=Aa hxm;have hgr3:gb < wr.heap.size:=(Ac.1 hBr).1;have hP:=Ah wr (.cells #[.int .i64 x.at_,.int .i64 x.size] 213);have hbP:Below wr.heap.size wr (wr.alloc (.cells #[.int .i64 x.at_,.int .i64 x.size] 213)):=(Ag _ wr).alloc (Af _) _;have k1:(j:Int) < (pn:Int):=by omega
       have k0:(0:Int)≤(j:Int):=by omega
       clear hx hx0 hx1 hxm hbW;go_upto_region 11 with fail
       generalize wr.alloc (.cells #[.int .i64 x.at_,.int .i64 x.size] 213)=w4 at*;have HR4:=Aa (HRX.out.below hbP);have HB4:=Aa ((hbP.block gb hgr3).trans hBr);have hbb4:=hb.trans (hbP.mono (Ar hgr3));have HBB4:=Aa hbb4;obtain⟨y0,y1,y2,y3⟩:=Cp _ _ _ _ _ _ _ HB4.out;obtain⟨⟨p0,p1⟩,_⟩:=Bz _ _ _ _ _ hP;have hnode:=HNO.out w4 hbb4 i q o s x HO.out HSS.out HXM.out;clear x0 x1 hBr hb hbP hP hbb4;generalize wr.heap.size=g10 at*;by_cases hc:Bw (De l D (i,q,s))=0
       ·have HC:=Aa hc;obtain⟨U,hU⟩:∃U,U=Ml l D (i,q,s):=⟨_,rfl⟩
        obtain⟨G,hG⟩:∃G,G=Gm l i ((q:Int)+1):=⟨_,rfl⟩
        have HU:=Aa hU;have HG:=Aa hG
        have HND:Hid (Calls Tryz.prog 115 #[.agg #[.slice p ln c,.slice q1 m1 d1,.slice q2 m2 d2,.slice (some ⟨g,og,none⟩) ln cs],.int .i64 (i:Int),.int .i64 ((q:Int)+1),.agg #[.int .i64 x.at_,.int .i64 x.size]] w4 fun e w'=>∃(p9:Option Addr)(n9 c9:Nat)(pe:Option Addr)(ne ce:Nat),e= .returned (.tuple #[.agg #[.int .i64 (i:Int),.int .i64 ((q:Int)+1),.int .i64 x.at_,.string s.name,.int .i64 s.type,.int .i64 s.flags,.int .i64 s.align,.int .i64 s.ent,.int .i64 x.size,.slice p9 n9 c9,.slice pe ne ce,.bool U,.int .i64 G,.int .i64 s.link],.nilIface])∧(Bp.mk (mkN l D (i,q,s) x) (.slice p9 n9 c9) (.slice pe ne ce)).ok w4.heap.size w'∧Below w4.heap.size w4 w'):=Aa (hnode.mono fun e w' hE=>by
         obtain⟨cs,h1,h2,h3⟩:=hE;rcases h2 with⟨h2,_⟩|⟨_,nv,h4,h5,h6⟩
         ·exact absurd hc h2
         ·obtain⟨x',d,e'⟩:=nv;obtain⟨p9,c9,hd,_⟩:=Bl h6.1;obtain⟨pe,ce,he,_⟩:=Bl h6.2.1;replace hd:d= .slice p9 x'.data.length c9:=hd;replace he:e'= .slice pe x'.edges.length ce:=he;replace h5:x'=mkN l D (i,q,s) x:=h5;subst hd he h4;rw[hc]at h1;refine⟨p9,x'.data.length,c9,pe,x'.edges.length,ce,?_,?_,h3⟩
          ·rw[h1,hU,hG,h5];rfl
          ·rw[←h5];exact h6)
        clear hnode hc hU hG
        go_upto_region 12 with(first|(go_at_call 115
                                      refine HND.out.mono ?_
                                      rintro e w5 ⟨p9,n9,c9,pe,ne,ce,rfl,hok5,hb5⟩)|fail)
        have hX:=Ah w5 (.cells #[.int .i64 (i:Int),.int .i64 ((q:Int)+1),.int .i64 x.at_,.string s.name,.int .i64 s.type,.int .i64 s.flags,.int .i64 s.align,.int .i64 s.ent,.int .i64 x.size,.slice p9 n9 c9,.slice pe ne ce,.bool U,.int .i64 G,.int .i64 s.link] 86);have hb56:Below w4.heap.size w4 (w5.alloc (.cells #[.int .i64 (i:Int),.int .i64 ((q:Int)+1),.int .i64 x.at_,.string s.name,.int .i64 s.type,.int .i64 s.flags,.int .i64 s.align,.int .i64 s.ent,.int .i64 x.size,.slice p9 n9 c9,.slice pe ne ce,.bool U,.int .i64 G,.int .i64 s.link] 86)):=hb5.alloc hb5.size _;have hb6:Below w5.heap.size w5 (w5.alloc (.cells #[.int .i64 (i:Int),.int .i64 ((q:Int)+1),.int .i64 x.at_,.string s.name,.int .i64 s.type,.int .i64 s.flags,.int .i64 s.align,.int .i64 s.ent,.int .i64 x.size,.slice p9 n9 c9,.slice pe ne ce,.bool U,.int .i64 G,.int .i64 s.link] 86)):=(Ag _ w5).alloc (Af _) _;have hok6:=hok5.below hb6;generalize w5.alloc (.cells #[.int .i64 (i:Int),.int .i64 ((q:Int)+1),.int .i64 x.at_,.string s.name,.int .i64 s.type,.int .i64 s.flags,.int .i64 s.align,.int .i64 s.ent,.int .i64 x.size,.slice p9 n9 c9,.slice pe ne ce,.bool U,.int .i64 G,.int .i64 s.link] 86)=w6 at*;generalize w5.heap.size=g11 at*;have hgr4:gb < w4.heap.size:=(Ac.1 HB4.out).1;have HB6:=Aa ((hb56.block gb hgr4).trans HB4.out);have HBB6:=Aa (HBB4.out.trans (hb56.mono (Ar hgr4)));have hR6:=HR4.out.below hb56;have HOK6:=Aa (hok6.lower (Ar hgr4));have hc:∀j v,(#[.int .i64 (i:Int),.int .i64 ((q:Int)+1),.int .i64 x.at_,.string s.name,.int .i64 s.type,.int .i64 s.flags,.int .i64 s.align,.int .i64 s.ent,.int .i64 x.size,.slice p9 n9 c9,.slice pe ne ce,.bool U,.int .i64 G,.int .i64 s.link]:Array Value)[j]?=some v→w6.cell? ⟨g11,j,none⟩=some v:=fun j v hv=>(Am w6 g11 j _ _ (0,0) hX).trans hv;have z0:=hc 0 _ rfl;have z1:=hc 1 _ rfl;have z2:=hc 2 _ rfl;have z3:=hc 3 _ rfl;have z4:=hc 4 _ rfl;have z5:=hc 5 _ rfl;have z6:=hc 6 _ rfl;have z7:=hc 7 _ rfl;have z8:=hc 8 _ rfl;have z9:=hc 9 _ rfl;have z10:=hc 10 _ rfl;have z11:=hc 11 _ rfl;have z12:=hc 12 _ rfl;have z13:=hc 13 _ rfl;obtain⟨ns,hn1,hn2,hn3⟩:=hR6;obtain⟨po,co,rfl,_⟩:=Bl hn1;have hcount:(nodesOf l D (Bo Az.secs l i q)++(pcs.take j).map (mkN l D (i,q,s))).length≤1001*16384000+16384:=by
         rw[List.length_append];have h1:=HFEW.out i q;have h4:((pcs.take j).map (mkN l D (i,q,s))).length≤16384:=by
          rw[List.length_map,List.length_take];omega
         have h5:(i+1)*16384000≤1001*16384000:=Nat.mul_le_mul_right _ (by omega);omega
        have hgb6:gb≤w6.heap.size:=Ar (Ac.1 HB6.out).1;have HYS:Hid (nodesOf l D (Bo Az.secs l i q)++(pcs.take (j+1)).map (mkN l D (i,q,s))=(nodesOf l D (Bo Az.secs l i q)++(pcs.take j).map (mkN l D (i,q,s)))++ [mkN l D (i,q,s) x]):=Aa (by rw[Hm HX.out,List.map_append,List.append_assoc];rfl);generalize nodesOf l D (Bo Az.secs l i q)++(pcs.take j).map (mkN l D (i,q,s))=ys at*;have HN2:=Aa hn2;have HN3:=Aa hn3;clear hc hX hb56 hb6 hb5 hok5 hok6 hn2 hn3 y0 y1 y2 y3 p0 p1;go_wp2_with (at_builtin;refine wpList_append_own _ rfl (.tmp 47) (.tmp 49) 74 rfl gb 86 i0 (.agg nodeZ.toArray) 14 152 Tryz.underlying74 HI.out H0.out H1.out H2.out rfl (by decide) _ _ _ rfl (hn1.alloc _) ⟨w6.heap.size,0,none⟩ 1 1 [.int .i64 (i:Int),.int .i64 ((q:Int)+1),.int .i64 x.at_,.string s.name,.int .i64 s.type,.int .i64 s.flags,.int .i64 s.align,.int .i64 s.ent,.int .i64 x.size,.slice p9 n9 c9,.slice pe ne ce,.bool U,.int .i64 G,.int .i64 s.link] rfl rfl (Rd w6 [.int .i64 (i:Int),.int .i64 ((q:Int)+1),.int .i64 x.at_,.string s.name,.int .i64 s.type,.int .i64 s.flags,.int .i64 s.align,.int .i64 s.ent,.int .i64 x.size,.slice p9 n9 c9,.slice pe ne ce,.bool U,.int .i64 G,.int .i64 s.link] _) (Uj _ _ _ _ _ _ _ _ _ _ _ _ _ _ _ _ _ _) (by unfold maxLen;omega) (by omega) (by simp;omega) ?_)
        intro v1 wb hown1 hgrow1 _;have hba:Below w6.heap.size w6 (w6.alloc (.cells #[.int .i64 (i:Int),.int .i64 ((q:Int)+1),.int .i64 x.at_,.string s.name,.int .i64 s.type,.int .i64 s.flags,.int .i64 s.align,.int .i64 s.ent,.int .i64 x.size,.slice p9 n9 c9,.slice pe ne ce,.bool U,.int .i64 G,.int .i64 s.link] 86)):=(Ag _ w6).alloc (Af _) _;have hfrb:FrT gb [86] w6 wb:=(FrT.of_below hba).trans (FrT.grown (hn1.alloc _) hgrow1 (by simp) (Af _));have hcl:Bp.cells (Bp.mk (mkN l D (i,q,s) x) (.slice p9 n9 c9) (.slice pe ne ce))= [.int .i64 (i:Int),.int .i64 ((q:Int)+1),.int .i64 x.at_,.string s.name,.int .i64 s.type,.int .i64 s.flags,.int .i64 s.align,.int .i64 s.ent,.int .i64 x.size,.slice p9 n9 c9,.slice pe ne ce,.bool U,.int .i64 G,.int .i64 s.link]:=by rw[HG.out,HU.out];rfl
        have hownb:wb.ownsRow gb 86 14 v1 (ys.length+1) ((ns++ [(Bp.mk (mkN l D (i,q,s) x) (.slice p9 n9 c9) (.slice pe ne ce))]).flatMap Bp.cells):=by
         rw[Ox,hcl];exact hown1
        have HRELB:Hid (Jt gb wb v1 (nodesOf l D (Bo Az.secs l i q)++(pcs.take (j+1)).map (mkN l D (i,q,s)))):=Aa (by
         rw[HYS.out];refine⟨ns++ [(Bp.mk (mkN l D (i,q,s) x) (.slice p9 n9 c9) (.slice pe ne ce))],by simpa using hownb,fun n hn=>?_,by rw[List.map_append,HN3.out];rfl⟩;rcases List.mem_append.1 hn with hn|hn
         ·exact(HN2.out n hn).fr hfrb (by decide) (by decide)
         ·obtain rfl:=List.mem_singleton.1 hn
          exact HOK6.out.fr hfrb (by decide) (by decide))
        have HBX:=Aa (hfrb.heap HB6.out (by decide));have HBBX:=Aa (HBB6.out.trans (hfrb.below hgb6));clear hba hfrb hcl hownb hown1 hgrow1 hn1 hcount z0 z1 z2 z3 z4 z5 z6 z7 z8 z9 z10 z11 z12 z13;go_wp2_with fail
        go_roundw
        case rel=>exact⟨j+1,by go_num,hjl,HRELB.out,fun _=>HC.out,HBX.out,HBBX.out⟩
        case measure=>simp[intOf];omega
       ·obtain⟨code,hcode⟩:∃code,code=Bw (De l D (i,q,s)):=⟨_,rfl⟩
        have HERR:Hid (Hf l D=code):=Aa (by rw[hcode];exact Ji1 HO.out HSS.out HZ2.out (fun e=>by rw[←HPCS.out]at e;have h1:=HX.out;rw[e]at h1;simp at h1) hc);rw[←hcode]at hnode hc
        have HND:Hid (Calls Tryz.prog 115 #[.agg #[.slice p ln c,.slice q1 m1 d1,.slice q2 m2 d2,.slice (some ⟨g,og,none⟩) ln cs],.int .i64 (i:Int),.int .i64 ((q:Int)+1),.agg #[.int .i64 x.at_,.int .i64 x.size]] w4 fun e w'=>e= .returned (.tuple #[.agg nodeZ.toArray,.iface 36 (.int .i64 code)])∧Below w4.heap.size w4 w'):=Aa (hnode.mono fun e w' hE=>by
         obtain⟨cs,h1,h2,h3⟩:=hE;rcases h2 with⟨_,rfl⟩|⟨h2,_⟩
         ·exact⟨by rw[h1];unfold Fk;rw[if_neg hc],h3⟩
         ·exact absurd h2 hc)
        have HCN:=Aa hc;clear hnode hcode hc
        go_upto_region 12 with(first|(go_at_call 115
                                      refine HND.out.mono ?_
                                      rintro e w5 ⟨rfl,hb5⟩)|fail)
        have hb56:Below w4.heap.size w4 (w5.alloc (.cells nodeZ.toArray 86)):=hb5.alloc hb5.size _;have hgr4:gb < w4.heap.size:=(Ac.1 HB4.out).1;have HBB6:=Aa (HBB4.out.trans (hb56.mono (Ar hgr4)));generalize w5.alloc (.cells nodeZ.toArray 86)=w6 at*;clear hb56 hb5 y0 y1 y2 y3 p0 p1;go_wp2_with fail
        go_ret2;rw[HERR.out];exact⟨_,by unfold Fk;rw[if_neg HCN.out];rfl,.inr ⟨HCN.out,rfl⟩,by rw[←HGB.out];exact HBB6.out⟩
      ·obtain rfl:j=pn:=by omega
       have hE:pcs.take j=pcs:=List.take_of_length_le (by rw[←HPN.out];exact Af _)
       have HREL:Hid (Jt gb wr _ (nodesOf l D (Bo Az.secs l i (q+1)))):=Aa (by
        have h1:=HRX.out;rw[hE,HPCS.out]at h1;rw[Fp HO.out HSS.out,Lv];have e2:nodesOf l D [(i,q,s)]=(Ch D (i,q,s)).map (mkN l D (i,q,s)):=by simp[nodesOf]
        rw[e2]
        exact h1)
       have HZN:Hid (Bw ((Bo Az.secs l i (q+1)).flatMap (Kr l D))=0):=Aa (by
        rw[Fp HO.out HSS.out,List.flatMap_append,Dx,if_pos HZ2.out];have e2: [(i,q,s)].flatMap (Kr l D)=Kr l D (i,q,s):=by simp
        rw[e2];by_cases h0:0 < j
        ·exact Jgh (HZ3.out h0)
        ·have hp0:pcs= []:=List.eq_nil_of_length_eq_zero (by rw[←HPN.out];omega);unfold Kr;rw[←HPCS.out,hp0]
         rfl)
       have HBX:=Aa hBr;have k1:¬(j:Int) < (j:Int):=by omega
       clear hE hBr;go_wp2_with fail
       go_roundw
       case rel=>exact⟨q+1,by go_num,hlt2,HREL.out,HZN.out,HBX.out,hb⟩
       case measure=>simp[intOf];omega
    ·obtain rfl:q=ql:=by omega
     have hE:=Ia (f:=Az.secs) HO.out (k:=q) (by rw[←HQN.out];exact Af _);have HREL:Hid (Jt gb wr _ (nodesOf l D (Bc Az.secs l (i+1)))):=Aa (by rw[←hE];exact HR2.out);have HZN:Hid (Bw ((Bc Az.secs l (i+1)).flatMap (Kr l D))=0):=Aa (by rw[←hE];exact HZ2.out);have HBX:=Aa hBr;have k1:¬(q:Int) < (q:Int):=by omega
     clear hE hBr;go_wp2_with fail
     go_roundw
     case rel=>exact⟨i+1,by go_num,by omega,HREL.out,HZN.out,HBX.out,hb⟩
     case measure=>simp[intOf];omega
  ·obtain rfl:i=ln:=by omega
   have HE0:Hid (Hf l D=0):=Aa (by unfold Hf Cl;rw[HLN.out];exact HZ.out);have HRL:=Aa (show Jt gb wr _ (nodesOf l D (Cl l)) by unfold Cl;rw[HLN.out];exact HR.out);have k1:¬(i:Int) < (i:Int):=by omega
   clear hBr;go_wp2_with fail
   go_ret2;rw[HE0.out];exact⟨_,rfl,.inl ⟨rfl,by rw[←HGB.out];exact HRL.out⟩,by rw[←HGB.out];exact hb⟩
theorem Tryz.infoName:(Tryz.prog.info? 96).map (fun i=>(i.zero,i.size,i.bytes))=some (some (.agg #[.string ⟨#[]⟩,.int .i64 0,.int .i64 0]),3,32):=by kernel_rfl
theorem Jkw(a:ByteArray)(b c:Int):∀u∈ [Value.string a,.int .i64 b,.int .i64 c],u.oneCell'=true:=fun u hu=>by
 simp only[List.mem_cons,List.not_mem_nil,or_false]at hu;rcases hu with rfl|rfl|rfl<;>rfl
def Zp(xs:List NmD)(w:World)(e:Ending)(w':World):Prop:=∃v,e= .returned v∧w'.ownsRow w.heap.size 96 3 v xs.length (xs.flatMap nmC)∧Below w.heap.size w w'
theorem Jit(HPF:Ob)(p pd pf ps:Option Addr)(c nd cd cf cs:Nat)(l:List Az)(D:List (List Bool))(S:List (List Lj))(defs:List Bb)(w:World)(hdf:Bg 3 Dg w pf defs)(hdl:defs.length≤1000000)(hdb:∀d∈defs,d.obj≤1000000∧d.sym≤1000000)(hS:Bg 1 Gj w ps S)(hok:Jcn l D S)(hpl:∀o s:Int,Kw l (Ck l D o s).1)
 (hW:∀W,Below w.heap.size w W→∀(o:Nat)(s:Int),Bn s→o≤1000000→Calls Tryz.prog 25 #[.slice p l.length c,.agg #[.slice pd nd cd,.slice pf defs.length cf],.int .i64 (o:Int),.int .i64 s] W (Mq (Ck l D o s) W)):
 Calls Tryz.prog 70 #[.agg #[.slice p l.length c,.slice pd nd cd,.slice pf defs.length cf,.slice ps S.length cs]] w (Zp (namesB l D defs) w):=by
 have ha:Below w.heap.size w (w.alloc (.cells #[.slice p l.length c,.slice pd nd cd,.slice pf defs.length cf,.slice ps S.length cs] 154)):=(Ag _ w).alloc (Af _) _;have hB:=Ah w (.cells #[.slice p l.length c,.slice pd nd cd,.slice pf defs.length cf,.slice ps S.length cs] 154);obtain⟨i0,hi,hz0,hz1,hz2⟩:=info_parts Tryz.infoName;have HI:=Aa hi;have H0:=Aa hz0;have H1:=Aa hz1;have H2:=Aa hz2;have HFD:=Aa fun W (hW:Below w.heap.size w W)(pi pk:Nat)(at_ n:Int)(row:List Lj)(x:Lj) h1 h2 h3 h4 h5 h6=>Jau HPF p pd pf ps l.length c nd cd defs.length cf cs pi pk at_ n S row x W (hS.below Gj.keeps hW) h1 h2 h3 h4 h5 h6;have HDF:=Aa fun W (hW:Below w.heap.size w W)=>hdf.below Dg.keeps hW;have HDB:=Aa hdb;have HWH:=Aa hW;have HOK:=Aa hok;have HPL:=Aa hpl;have HA:=Aa ha;generalize hln:l.length=ln at*;generalize hsn:S.length=sn at*;obtain⟨fn,hfn⟩:∃fn,fn=defs.length:=⟨_,rfl⟩
 have HFN:=Aa hfn;rw[←hfn]at hB HA HFD HWH hdl⊢;obtain⟨gb,hgb⟩:∃gb,gb=w.heap.size:=⟨_,rfl⟩
 have HGB:=Aa hgb;rw[←hgb]at hB HA HFD HDF HWH;clear hi hz0 hz1 hz2 hdf hdb hS hok hpl hW ha hln hsn hfn hgb;go_enter Tryz.func70,Tryz.ntmps70;go_upto_region 1 with fail
 generalize w.alloc (.cells #[.slice p ln c,.slice pd nd cd,.slice pf fn cf,.slice ps sn cs] 154)=w1 at*;rw[←HGB.out];obtain⟨y0,y1,y2,y3⟩:=Cp _ _ _ _ _ _ _ hB;go_wp2_with fail
 go_loopw [3,15,5,6,7,8,9,10] (fun r3 r15 _ _ _ _ _ _ wr=>∃k:Nat,r15= .int .i64 (k:Int)∧k≤fn∧wr.ownsRow gb 96 3 r3 (namesB l D (defs.take k)).length ((namesB l D (defs.take k)).flatMap nmC)∧wr.heap[gb]?=some (.cells #[.slice p ln c,.slice pd nd cd,.slice pf fn cf,.slice ps sn cs] 154 (0,0))∧Below gb w wr) (fun _ r15 _ _ _ _ _ _ _=>fn - (intOf r15).toNat)
 case atStart=>exact⟨0,rfl,Ak _,Aq _ _ _ _,hB,HA.out⟩
 case round=>
  obtain⟨k,rfl,hk,hown,hBr,hb⟩:=hrel;have HOWN:=Aa hown;clear hB hown y0 y1 y2 y3;by_cases hlt:k < fn
  ·obtain⟨b5,o5,d,hpe,hdk,x0,x1,x2⟩:=(HDF.out wr hb).at_ (i:=k) (by rw[←HFN.out];exact hlt);subst hpe;have HDK:=Aa hdk;have hdd:=HDB.out d (Ad hdk)
   have HSTEP:Hid (namesB l D (defs.take (k+1))=namesB l D (defs.take k)++(Ih l D d).toList):=Aa (by
    unfold namesB;rw[Hm hdk,List.filterMap_append];cases hg:Ih l D d with
    |none=>simp[hg]
    |some y=>simp[hg])
   have j1:(k:Int) < (fn:Int):=by omega
   have j0:(0:Int)≤(k:Int):=by omega
   have hgr:gb < wr.heap.size:=(Ac.1 hBr).1;have hL:=Ah wr (.cells #[.string d.name,.int .i64 (d.obj:Int),.int .i64 (d.sym:Int)] 60);have hbL:Below wr.heap.size wr (wr.alloc (.cells #[.string d.name,.int .i64 (d.obj:Int),.int .i64 (d.sym:Int)] 60)):=(Ag _ wr).alloc (Af _) _;clear hdk;go_upto_region 5 with fail
   generalize wr.alloc (.cells #[.string d.name,.int .i64 (d.obj:Int),.int .i64 (d.sym:Int)] 60)=w2 at*;have hB2:=(hbL.block gb hgr).trans hBr;have hb2:Below gb w w2:=hb.trans (hbL.mono (Ar hgr));have HOWN2:=Aa (Bd HOWN.out hbL);have hg2s:wr.heap.size < w2.heap.size:=(Ac.1 hL).1;generalize wr.heap.size=g2 at*;obtain⟨y0,y1,y2,y3⟩:=Cp _ _ _ _ _ _ _ hB2;obtain⟨⟨z0,z1,z2⟩,_⟩:=Bj _ _ _ _ _ _ hL;have hwh:=HWH.out w2 hb2 d.obj (d.sym:Int) (by unfold Bn;omega) hdd.1;have hpl:=HPL.out (d.obj:Int) (d.sym:Int);have hgn:Ih l D d=if(Ck l D d.obj d.sym).2≠0 then none else(findB l D (Ck l D d.obj d.sym).1).map fun t=>⟨d.name,t.1,t.2⟩:=rfl
   obtain⟨⟨⟨P0,P1,P2⟩,cd1⟩,hwb⟩:∃P:Cq × Int,Ck l D d.obj d.sym=P:=⟨_,rfl⟩
   rw[hwb]at hwh hpl hgn;have HPLC:=Aa hpl;have HGN:=Aa hgn;have HB2:=Aa hB2;have HBB2:=Aa hb2;have HL2:=Aa hL;have hgr2:gb < w2.heap.size:=by omega
   generalize hgx:Ih l D d=gx at*;clear x0 x1 x2 hbL hBr hb hpl hgn hwb hB2 hb2 hL hgx;by_cases hc:cd1=0
   ·subst hc;have HWX:Hid (Calls Tryz.prog 25 #[.slice p ln c,.agg #[.slice pd nd cd,.slice (some ⟨b5,o5,none⟩) fn cf],.int .i64 (d.obj:Int),.int .i64 (d.sym:Int)] w2 fun e w'=>e= .returned (.tuple #[.agg #[.int .i64 P0,.int .i64 P1,.int .i64 P2],.nilIface])∧Below w2.heap.size w2 w'):=Aa hwh;clear hwh
    go_upto_region 6 with(first|(go_at_call 25
                                 refine HWX.out.mono ?_
                                 rintro e w5 ⟨rfl,hb5⟩)|fail)
    have hP:=Ah w5 (.cells #[.int .i64 P0,.int .i64 P1,.int .i64 P2] 67);have hb46:Below w2.heap.size w2 (w5.alloc (.cells #[.int .i64 P0,.int .i64 P1,.int .i64 P2] 67)):=hb5.alloc hb5.size _;generalize w5.alloc (.cells #[.int .i64 P0,.int .i64 P1,.int .i64 P2] 67)=w6 at*;generalize w5.heap.size=g5 at*;obtain⟨d0,d1,d2⟩:w6.cell? ⟨g5,0,none⟩=some (.int .i64 P0)∧w6.cell? ⟨g5,1,none⟩=some (.int .i64 P1)∧w6.cell? ⟨g5,2,none⟩=some (.int .i64 P2):=by
     obtain⟨⟨d0,d1,d2⟩,_⟩:=Bj _ _ _ _ _ _ hP;exact⟨d0,d1,d2⟩
    have HB6:=Aa ((hb46.block gb hgr2).trans HB2.out);have HL6:=Aa ((hb46.block g2 hg2s).trans HL2.out);have HBB6:=Aa (HBB2.out.trans (hb46.mono (Ar hgr2)));have HOWN6:=Aa (Bd HOWN2.out hb46);clear y0 y1 y2 y3 z0 z1 z2 hb46 hb5 hP;rcases HPLC.out.2 with hp0|⟨pi,pk,po_,ps_,hpe,hpi,hpk⟩
    ·have hp0':P1=0:=hp0;subst hp0';have hgx0:gx=none:=by
      have h:=HGN.out;rw[if_neg (by trivial)]at h;rw[h];rfl
     have HSN:Hid (namesB l D (defs.take (k+1))=namesB l D (defs.take k)):=Aa (by rw[HSTEP.out,hgx0];simp);clear hgx0;go_wp2_with fail
     go_roundw
     case rel=>exact⟨k+1,by go_num,hlt,by rw[HSN.out];exact HOWN6.out,HB6.out,HBB6.out⟩
     case measure=>simp[intOf];omega
    ·obtain⟨rfl,rfl⟩:P0=(pi:Int)∧P1=(pk:Int)+1:=by
      simp only[Cq.mk.injEq]at hpe;exact⟨hpe.1,hpe.2.1⟩
     obtain⟨row,x,n,hrow,hx,hxp,hxk,hxf,hxe,hkb⟩:=HOK.out pi pk po_ ps_ hpi hpk;have hfb:findB l D ⟨(pi:Int),(pk:Int)+1,P2⟩=findPc x.pcs x.first.toNat P2:=Jc5 hpi hpk hxp hxe;have hfind:=HFD.out w6 HBB6.out pi pk P2 n row x hrow hx hxk hxf HPLC.out.1 hkb;rw[←hfb]at hfind
     have HGX:Hid (gx=(findB l D ⟨(pi:Int),(pk:Int)+1,P2⟩).map fun t=>(⟨d.name,t.1,t.2⟩:NmD)):=Aa (by
      have h:=HGN.out;rw[if_neg (by trivial)]at h
      exact h)
     generalize findB l D ⟨(pi:Int),(pk:Int)+1,P2⟩=fb at*;obtain⟨y0,y1,y2,y3⟩:=Cp _ _ _ _ _ _ _ HB6.out;have j2:¬(pk:Int)+1=0:=by omega
     have j3:((pk:Int)+1==0)=false:=by simp;omega
     have hgr6:gb < w6.heap.size:=(Ac.1 HB6.out).1;cases fb with
     |none=>
      have HFX:Hid (Calls Tryz.prog 116 #[.agg #[.slice p ln c,.slice pd nd cd,.slice (some ⟨b5,o5,none⟩) fn cf,.slice ps sn cs],.agg #[.int .i64 (pi:Int),.int .i64 ((pk:Int)+1),.int .i64 P2]] w6 fun e w'=>e= .returned (.tuple #[.int .i64 0,.int .i64 0,.bool false])∧Below w6.heap.size w6 w'):=Aa hfind;have HSN:Hid (namesB l D (defs.take (k+1))=namesB l D (defs.take k)):=Aa (by rw[HSTEP.out,HGX.out];simp);clear hfind hpe hpi hpk hrow hx hxp hxk hxf hxe hfb
      go_upto_region 8 with(first|(go_at_call 116
                                   refine HFX.out.mono ?_
                                   rintro e w7 ⟨rfl,hb7⟩)|fail)
      have HB7:=Aa ((hb7.block gb hgr6).trans HB6.out);have HBB7:=Aa (HBB6.out.trans (hb7.mono (Ar hgr6)));have HOWN7:=Aa (Bd HOWN6.out hb7);clear hb7 d0 d1 d2 y0 y1 y2 y3;go_wp2_with fail
      go_roundw
      case rel=>exact⟨k+1,by go_num,hlt,by rw[HSN.out];exact HOWN7.out,HB7.out,HBB7.out⟩
      case measure=>simp[intOf];omega
     |some t=>
      have HFX:Hid (Calls Tryz.prog 116 #[.agg #[.slice p ln c,.slice pd nd cd,.slice (some ⟨b5,o5,none⟩) fn cf,.slice ps sn cs],.agg #[.int .i64 (pi:Int),.int .i64 ((pk:Int)+1),.int .i64 P2]] w6 fun e w'=>e= .returned (.tuple #[.int .i64 t.1,.int .i64 t.2,.bool true])∧Below w6.heap.size w6 w'):=Aa hfind;have HSN:Hid (namesB l D (defs.take (k+1))=namesB l D (defs.take k)++ [⟨d.name,t.1,t.2⟩]):=Aa (by rw[HSTEP.out,HGX.out];simp);clear hfind hpe hpi hpk hrow hx hxp hxk hxf hxe hfb
      go_upto_region 8 with(first|(go_at_call 116
                                   refine HFX.out.mono ?_
                                   rintro e w7 ⟨rfl,hb7⟩)|fail)
      have HB7:=Aa ((hb7.block gb hgr6).trans HB6.out);have HBB7:=Aa (HBB6.out.trans (hb7.mono (Ar hgr6)));have hown7:=Bd HOWN6.out hb7;obtain⟨z0,z1,z2⟩:w7.cell? ⟨g2,0,none⟩=some (.string d.name)∧w7.cell? ⟨g2,1,none⟩=some (.int .i64 (d.obj:Int))∧w7.cell? ⟨g2,2,none⟩=some (.int .i64 (d.sym:Int)):=by
       obtain⟨⟨z0,z1,z2⟩,_⟩:=Bj _ _ _ _ _ _ ((hb7.block g2 (Ac.1 HL6.out).1).trans HL6.out);exact⟨z0,z1,z2⟩
      obtain⟨po,co,rfl,_⟩:=Bl hown7;have hcount:(namesB l D (defs.take k)).length≤1000000:=by
       unfold namesB;have h1:=List.length_filterMap_le (Ih l D) (defs.take k);have h2:=List.length_take_le k defs;omega
      have hgb7:gb≤w7.heap.size:=Ar (Ac.1 HB7.out).1;generalize namesB l D (defs.take k)=xs at*;clear hb7 d0 d1 d2 y0 y1 y2 y3;go_wp2_with (at_builtin;refine wpList_append_own _ rfl (.tmp 46) (.tmp 52) 75 rfl gb 96 i0 (.agg #[.string ⟨#[]⟩,.int .i64 0,.int .i64 0]) 3 32 Tryz.underlying75 HI.out H0.out H1.out H2.out rfl (by decide) _ _ _ rfl (hown7.alloc _) ⟨w7.heap.size,0,none⟩ 1 1 [.string d.name,.int .i64 t.1,.int .i64 t.2] rfl rfl (Rd w7 [.string d.name,.int .i64 t.1,.int .i64 t.2] _) (Jkw _ _ _) (by unfold maxLen;omega) (by omega) (by simp;omega) ?_)
      intro v1 wb hown1 hgrow1 _;have hba:Below w7.heap.size w7 (w7.alloc (.cells #[.string d.name,.int .i64 t.1,.int .i64 t.2] 96)):=(Ag _ w7).alloc (Af _) _;have hfrb:FrT gb [96] w7 wb:=(FrT.of_below hba).trans (FrT.grown (hown7.alloc _) hgrow1 (by simp) (Af _))
      have HOWNB:Hid (wb.ownsRow gb 96 3 v1 (namesB l D (defs.take (k+1))).length ((namesB l D (defs.take (k+1))).flatMap nmC)):=Aa (by
       rw[HSN.out,List.flatMap_append,List.length_append]
       exact hown1)
      have HBX:=Aa (hfrb.heap HB7.out (by decide));have HBBX:=Aa (HBB7.out.trans (hfrb.below hgb7));clear hba hfrb hown1 hgrow1 hown7 z0 z1 z2;go_wp2_with fail
      go_roundw
      case rel=>exact⟨k+1,by go_num,hlt,HOWNB.out,HBX.out,HBBX.out⟩
      case measure=>simp[intOf];omega
   ·have HWX:Hid (Calls Tryz.prog 25 #[.slice p ln c,.agg #[.slice pd nd cd,.slice (some ⟨b5,o5,none⟩) fn cf],.int .i64 (d.obj:Int),.int .i64 (d.sym:Int)] w2 fun e w'=>e= .returned (.tuple #[.agg #[.int .i64 P0,.int .i64 P1,.int .i64 P2],.iface 36 (.int .i64 cd1)])∧Below w2.heap.size w2 w'):=Aa (hwh.mono fun e w' ⟨h1,h2⟩=>⟨by rw[h1];unfold Fk;rw[if_neg hc],h2⟩);have hgx0:gx=none:=by
     have h:=HGN.out;rw[if_pos hc]at h;exact h
    have HSN:Hid (namesB l D (defs.take (k+1))=namesB l D (defs.take k)):=Aa (by rw[HSTEP.out,hgx0];simp);clear hwh hgx0
    go_upto_region 6 with(first|(go_at_call 25
                                 refine HWX.out.mono ?_
                                 rintro e w5 ⟨rfl,hb5⟩)|fail)
    have hb46:Below w2.heap.size w2 (w5.alloc (.cells #[.int .i64 P0,.int .i64 P1,.int .i64 P2] 67)):=hb5.alloc hb5.size _;generalize w5.alloc (.cells #[.int .i64 P0,.int .i64 P1,.int .i64 P2] 67)=w6 at*;generalize w5.heap.size=g5 at*;have HB6:=Aa ((hb46.block gb hgr2).trans HB2.out);have HBB6:=Aa (HBB2.out.trans (hb46.mono (Ar hgr2)));have HOWN6:=Aa (Bd HOWN2.out hb46);clear y0 y1 y2 y3 z0 z1 z2 hb46 hb5 hc;go_wp2_with fail
    go_roundw
    case rel=>exact⟨k+1,by go_num,hlt,by rw[HSN.out];exact HOWN6.out,HB6.out,HBB6.out⟩
    case measure=>simp[intOf];omega
  ·obtain rfl:k=fn:=by omega
   have hE:defs.take k=defs:=List.take_of_length_le (by rw[←HFN.out];exact Af _);have HREL:=Aa HOWN.out;rw[hE]at HREL;have k1:¬(k:Int) < (k:Int):=by omega
   clear hE hBr;go_wp2_with fail
   go_ret;exact⟨_,rfl,by rw[←HGB.out];exact HREL.out,by rw[←HGB.out];exact hb⟩
def Lh(entry:ByteArray):List NmD→Int
 | []=>-1
 |n::ns=>if sEq n.name entry then 0 else if Lh entry ns < 0 then -1 else Lh entry ns+1
theorem Xj{entry:ByteArray}:∀{l:List NmD},(∀n∈l,sEq n.name entry=false)→Lh entry l= -1
 | [],_=>rfl
 |n::l,h=>by
  unfold Lh;rw[h n (by simp),Xj fun m hm=>h m (by simp[hm])];simp
theorem Jek{entry:ByteArray}:∀{l:List NmD}{i:Nat}{x:NmD},l[i]?=some x→sEq x.name entry=true→(∀j y,j < i→l[j]?=some y→sEq y.name entry=false)→Lh entry l=(i:Int)
 | [],i,x,h,_,_=>by simp at h
 |n::l,0,x,h,hx,_=>by
  simp at h;subst h;unfold Lh;rw[hx];rfl
 |n::l,i+1,x,h,hx,ha=>by
  have h0:=ha 0 n (by omega) rfl;have ih:=Jek (l:=l) (i:=i) (by simpa using h) hx fun j y hj hy=>ha (j+1) y (by omega) (by simpa using hy);unfold Lh;rw[h0,ih];simp;omega
theorem Xo(entry:ByteArray):∀l:List NmD,(Lh entry l < 0∧l.find? (fun n=>sEq n.name entry)=none)∨∃(i:Nat)(x:NmD),Lh entry l=(i:Int)∧l[i]?=some x∧l.find? (fun n=>sEq n.name entry)=some x
 | []=> .inl ⟨by simp[Lh],rfl⟩
 |n::l=>by
  unfold Lh;rw[List.find?_cons];cases hx:sEq n.name entry with
  |true=>exact .inr ⟨0,n,by simp,by simp,rfl⟩
  |false=>
   rcases Xo entry l with⟨h1,h2⟩|⟨i,x,h1,h2,h3⟩
   ·exact .inl ⟨by simp[h1],h2⟩
   ·refine .inr ⟨i+1,x,?_,by simpa using h2,h3⟩;rw[h1];simp;omega
theorem Jdp(nm entry:ByteArray)(t a:Int)(ge:Nat)(w:World)(h:w.cell? ⟨ge,0,none⟩=some (.string entry)):
 Calls Tryz.prog 72 #[.agg #[.string nm,.int .i64 t,.int .i64 a],.pointer (some ⟨ge,0,none⟩)] w fun e w'=>e= .returned (.bool (sEq nm entry))∧Below w.heap.size w w':=by
 have hb:Below w.heap.size w (w.alloc (.cells #[.string nm,.int .i64 t,.int .i64 a] 96)):=(Ag _ w).alloc (Af _) _;have hX:=Ah w (.cells #[.string nm,.int .i64 t,.int .i64 a] 96);have h2:=Ax hb h;obtain⟨⟨x0,x1,x2⟩,_⟩:=Bj _ _ _ _ _ _ hX;clear h hX;go_enter Tryz.func72,Tryz.ntmps72;go_upto_region 1 with fail
 go_wp2_with fail
 go_ret;exact⟨rfl,hb⟩
theorem Jga(p:Option Addr)(c ge:Nat)(l:List NmD)(entry:ByteArray)(w:World)(h:Bg 3 ENm w p l)(hl:l.length≤1000000)(he:w.cell? ⟨ge,0,none⟩=some (.string entry)):
 Calls Tryz.prog 71 #[.slice p l.length c,.func (.func 72) #[] #[.pointer (some ⟨ge,0,none⟩)]] w fun e w'=>e= .returned (.int .i64 (Lh entry l))∧Below w.heap.size w w':=by
 have HH:=Aa fun W (hW:Below w.heap.size w W)=>h.below ENm.keeps hW;have HF:=Aa fun W (hW:Below w.heap.size w W) nm t a=>Jdp nm entry t a ge W (Ax hW he);obtain⟨n,hn⟩:∃n,n=l.length:=⟨_,rfl⟩
 have HN:=Aa hn;rw[←hn]at hl⊢;obtain⟨res,hres⟩:∃res,res=Lh entry l:=⟨_,rfl⟩
 have HRES:=Aa hres;rw[←hres];clear h he hn hres;go_enter Tryz.func71,Tryz.ntmps71;go_wp2_with fail
 go_loopw [8,5] (fun r8 _ wr=>∃k:Nat,r8= .int .i64 (k:Int)∧k≤n∧(∀j y,j < k→l[j]?=some y→sEq y.name entry=false)∧Below w.heap.size w wr) (fun r8 _ _=>n - (intOf r8).toNat)
 case atStart=>exact⟨0,rfl,Ak _,fun j y hj=>absurd hj (Nat.not_lt_zero _),Ag _ _⟩
 case round=>
  obtain⟨k,rfl,hk,ha,hb⟩:=hrel;have HAH:=Aa ha;clear ha;by_cases hlt:k < n
  ·obtain⟨b,o,x,hpe,hx,e0,e1,e2⟩:=(HH.out wr hb).at_ (i:=k) (by rw[←HN.out];exact hlt);subst hpe;have x0:=e0.1;have x1:=e1.1;have x2:=e2.1;have HX:=Aa hx;have hf:=HF.out wr hb x.name x.to_ x.at_;obtain⟨nm,hnm⟩:∃nm,nm=x.name:=⟨_,rfl⟩
   rw[←hnm]at hf x0;obtain⟨q,hq⟩:∃q,q=sEq nm entry:=⟨_,rfl⟩
   have HQ:Hid (q=sEq x.name entry):=Aa (by rw[hq,hnm]);rw[←hq]at hf;have HFX:=Aa hf;have j1:(k:Int) < (n:Int):=by omega
   have j0:(0:Int)≤(k:Int):=by omega
   clear hx e0 e1 e2 hf hnm hq;cases q with
   |true=>
    have HR:Hid (res=(k:Int)):=Aa (by rw[HRES.out];exact Jek HX.out HQ.out.symm HAH.out);go_wp2_with fail
    refine HFX.out.mono ?_;rintro e w2 ⟨rfl,hb2⟩;have hb3:=hb.trans (hb2.mono hb.size);clear hb2 hb x0 x1 x2;go_wp2_with fail
    go_ret;rw[HR.out];exact⟨rfl,hb3⟩
   |false=>
    have HA2:Hid (∀j y,j < k+1→l[j]?=some y→sEq y.name entry=false):=Aa fun j y hj hy=>by
     by_cases h:j=k
     ·subst h;rw[HX.out]at hy;cases hy;exact HQ.out.symm
     ·exact HAH.out j y (by omega) hy
    go_wp2_with fail
    refine HFX.out.mono ?_;rintro e w2 ⟨rfl,hb2⟩;have hb3:=hb.trans (hb2.mono hb.size);clear hb2 hb x0 x1 x2;go_wp2_with fail
    go_roundw
    case rel=>exact⟨k+1,by go_num,hlt,HA2.out,hb3⟩
    case measure=>simp[intOf];omega
  ·have HR:Hid (res= -1):=Aa (by
    rw[HRES.out];refine Xj fun m hm=>?_;obtain⟨j,hj⟩:=Av hm;have hjl:=(Ab.1 hj).1
    exact HAH.out j m (by have:=HN.out;omega) hj)
   have j1:¬(k:Int) < (n:Int):=by omega
   go_wp2_with fail
   go_ret;rw[HR.out];exact⟨rfl,hb⟩
end Go.Proofs.YteopgmieindojaaGreat
