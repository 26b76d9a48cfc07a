/- Parts of a proof. -/
import Derived.Test.YteopgmieindojaaGreatGX14
import Derived.Test.YteopgmieindojaaGreatGX12
set_option maxRecDepth 1000000
set_option maxHeartbeats 8000000
namespace Go.Proofs.YteopgmieindojaaGreat
open Go.RowKit
theorem Tryz.infoBoolD:(Tryz.prog.info? 4).map (fun i=>(i.zero,i.size,i.bytes))=some (some (.bool false),1,1):=by kernel_rfl
theorem Tryz.infoBools:(Tryz.prog.info? 138).map (fun i=>(i.zero,i.size,i.bytes))=some (some (.slice none 0 0),1,24):=by kernel_rfl
theorem Jm5(w:World):(zeroValue 4).run Tryz.prog w= .ok (.bool false) w:=by kernel_rfl
theorem Sl{α:Type}{l:List α}{k:Nat}{x:α}(h:l[k]?=some x):l.take (k+1)=l.take k++ [x]:=by
 rw[List.take_succ_eq_append_getElem (Ab.1 h).1,(Ab.1 h).2]
theorem Jc1(p:Option Addr)(c:Nat)(l:List Az)(w:World)(h:Bg 5 Cg w p l)(hok:∀o∈l,OkD o)(hlc:l.length≤1000):
 Calls Tryz.prog 53 #[.slice p l.length c] w fun e w'=>∃v,e= .returned v∧(∀W,Fr2 w.heap.size w' W→IsL 1 Fg W v (dropsOf l))∧Below w.heap.size w w':=by
 obtain⟨i0,gi,gz0,gz1,gz2⟩:=info_parts Tryz.infoBoolD;obtain⟨i1,ki,kz0,kz1,kz2⟩:=info_parts Tryz.infoBools;have GI:=Aa gi;have G0:=Aa gz0;have G1:=Aa gz1;have G2:=Aa gz2;have KI:=Aa ki;have K0:=Aa kz0;have K1:=Aa kz1;have K2:=Aa kz2;have hmm:=@run_makeMap Tryz.prog;have HH:=Aa fun W (hW:Below w.heap.size w W)=>h.below Cg.keeps hW;have HOK:=Aa hok;have HEND:=Aa fun(W:World)(base:Nat)(vs:List Value) h1 h2=>Jju (w:=W) (gb:=w.heap.size) (base:=base) (vs:=vs) hok h1 h2 hlc;generalize hln:l.length=ln at*;have HLN:=Aa hln;generalize hdd:dropsOf l=DD at*;clear gi gz0 gz1 gz2 ki kz0 kz1 kz2 h hok hln hdd;go_enter Tryz.func53,Tryz.ntmps53;generalize hgb:w.heap.size=gb at*;have HGB:=Aa hgb;have hb8:i1.bytes*ln≤281474976710656:=by rw[K2.out];omega
 go_upto_region 1 with fail
 go_upto_region 2 with(at_make;refine wpList_make_full _ rfl _ _ 46 rfl gb 138 i1 (.slice none 0 0) 1 Tryz.underlying46 KI.out K0.out K1.out _ _ _ _ ln rfl rfl rfl rfl hb8 (by unfold maxLen;omega) (by omega) ?_)
 intro w1 hown hgrow;have hb1:Below gb w w1:=by rw[←hgb];exact(Ag _ w).grown hgrow (Af _) (fun k h=>by cases h)
 have hgB:=(hown.lt gb rfl).2;clear hgrow hb8 hgb;go_upto_region 3 with fail
 have hown2:=hown.alloc (.map #[] 0);have hsm:=En.made w1;have hb2:Below gb w (w1.alloc (.map #[] 0)):=hb1.alloc (Ar hgB) _;generalize w1.alloc (.map #[] 0)=w2 at*;generalize w1.heap.size=B at*;clear hown hb1;go_wp2_with fail
 go_loopw [18] (fun r18 wr=>∃(i:Nat)(vs:List Value)(m:List (ByteArray × Value)),i≤ln∧r18= .int .i64 (i:Int)∧wr.ownsRow gb 138 1 (.slice (some ⟨gb,0,none⟩) ln ln) ln vs∧En wr B m∧So l i 0 m∧Js wr (B+1) vs l i∧Below gb w wr) (fun r18 _=>ln - (intOf r18).toNat)
 case atStart=>exact⟨0,_, [],Ak _,rfl,hown2,hsm,Jgm l,fun j o hj=>absurd hj (Nat.not_lt_zero _),hb2⟩
 case round=>
  obtain⟨i,vs,m,hi,rfl,hown,hsm,hmet,hrows,hb⟩:=hrel;have HMET:=Aa hmet;have hBs:=hsm.lt;clear hmet;by_cases hlt:i < ln
  ·obtain⟨o,ho⟩:∃o,l[i]?=some o:=⟨_,Ae (by rw[HLN.out];exact hlt)⟩
   obtain⟨b,off,p0,p1,p2,p4,c0,c1,c2,c4,hpe,e0',e1',e2',e3',e4',_,hsy,hgr,_⟩:=Du (HH.out w (by rw[←HGB.out];exact Ag _ w)) ho;subst hpe;have hbW:Below w.heap.size w wr:=by rw[HGB.out];exact hb
   have e0:=Ax hbW e0';have e1:=Ax hbW e1';have e2:=Ax hbW e2';have e3:=Ax hbW e3';have e4:=Ax hbW e4';have HSYM:=Aa hsy;have HGRP:=Aa hgr;clear e0' e1' e2' e3' e4' hsy hgr hbW;have HO:=Aa ho;have hoo:=HOK.out o (Ad ho);have hql:=hoo.few.1;have hgl:=hoo.few.2.2.1;have HOO:=Aa hoo;have hI:(i:Int) < (ln:Int):=by omega
   have hI0:(0:Int)≤(i:Int):=by omega
   have hI1:¬(ln:Int)≤(i:Int):=by omega
   have hI2:¬(i:Int) < 0:=by omega
   clear ho hoo;go_upto_region 6 with fail
   have hal:=World.grownBy_alloc wr (.cells #[.slice p0 o.secs.length c0,.slice p1 o.syms.length c1,.slice p2 o.groups.length c2,.bool o.hasSig,.slice p4 o.sig.length c4] 27) none;have hgo:=Ah wr (.cells #[.slice p0 o.secs.length c0,.slice p1 o.syms.length c1,.slice p2 o.groups.length c2,.bool o.hasSig,.slice p4 o.sig.length c4] 27);have hbs:Below gb w (wr.alloc (.cells #[.slice p0 o.secs.length c0,.slice p1 o.syms.length c1,.slice p2 o.groups.length c2,.bool o.hasSig,.slice p4 o.sig.length c4] 27)):=hb.alloc (by omega) _;generalize wr.alloc (.cells #[.slice p0 o.secs.length c0,.slice p1 o.syms.length c1,.slice p2 o.groups.length c2,.bool o.hasSig,.slice p4 o.sig.length c4] 27)=ws at*;have hownS:=hown.kept hal (.inr (by simp[Value.ownBlock]));have hsmS:=hsm.block (hal.block B hBs (by simp));have hrowsS:=hrows.fr2 ((Fr2.refl (B+1) wr).grown hal (fun r e=>by cases e));have hBg:B < wr.heap.size:=hBs;generalize wr.heap.size=go at*;obtain⟨⟨u0,u1,u2,u3,u4'⟩,_⟩:=Ga _ _ _ _ _ _ _ _ hgo;have hgi:go < ws.heap.size:=(Ac.1 hgo).1;generalize hqn:o.secs.length=qn at*;have HQN:=Aa hqn;have hb8:i0.bytes*qn≤281474976710656:=by rw[G2.out];omega
   have HGO:=Aa hgo;clear hal hown hsm hrows hb e0 e1 e2 e3 e4 hqn hgo;go_wp2_with (at_make;refine wpList_make_full _ rfl _ _ 138 rfl (B+1) 4 i0 (.bool false) 1 Tryz.underlying138 GI.out G0.out G1.out _ _ _ _ qn rfl rfl rfl rfl hb8 (by unfold maxLen;omega) (by omega) ?_)
   intro w3 hrow hgr3;have hown3:=hownS.kept hgr3 (.inr (by simp[Value.ownBlock]));have hsm3:=hsmS.block (hgr3.block B (by omega) (by simp));have hf3:Fr2 (B+1) ws w3:=(Fr2.refl (B+1) ws).grown hgr3 (fun r e=>by cases e);have hrows3:=hrowsS.fr2 hf3;have hb3:Below gb w w3:=hbs.grown hgr3 (by omega) (fun r e=>by cases e);have hrow3:w3.ownsRow (B+1) 4 1 (.slice (some ⟨ws.heap.size,0,none⟩) qn qn) qn ((Cx l i o 0).map Value.bool):=by
    rw[show Cx l i o 0=List.replicate qn false by unfold Cx;rw[HQN.out],List.map_replicate,←toList_madeCells_one];exact hrow
   have hvl:vs.length=ln:=by have:=hownS.1;omega
   obtain⟨vi,hvi⟩:∃vi,vs[i]?=some vi:=⟨_,Ae (by omega)⟩
   have hcv:=hown3.cellAt i (by omega);rw[hvi]at hcv;have hfz:=hown3.frozenAt i;have hst:=hown3.stored i (.slice (some ⟨ws.heap.size,0,none⟩) qn qn);have hsz3:ws.heap.size < w3.heap.size:=(hrow3.lt _ rfl).2;have hB3:B < w3.heap.size:=by omega
   have hown4:=hst.1;have hrow4:=hrow3.kept hst.2 (.inr (by simp[Value.ownBlock];omega));have hsm4:=hsm3.block (hst.2.block B hB3 (by simp;omega));have hf4:=hf3.grown hst.2 (fun r e=>by cases e;omega);have hrows4:=(hrowsS.fr2 hf4).set (i:=i) (v:= .slice (some ⟨ws.heap.size,0,none⟩) qn qn);have hb4:Below gb w (w3.setCell ⟨gb,i,none⟩ (.slice (some ⟨ws.heap.size,0,none⟩) qn qn)):=hb3.grown hst.2 (by omega) (fun r e=>by cases e;omega);have HSM4:=Aa hsm4;have HROW4:=Aa hrow4;have HOWN4:=Aa hown4;have HF4:=Aa hf4;have HB4:=Aa hb4;clear hown3 hsm3 hf3 hrows3 hb3 hrow3 hvi hst hownS hsmS hbs hrow hgr3 hsm4 hrow4 hown4 hf4 hb4 u0 u1 u2 u3 u4';go_upto_region 7 with fail
   generalize w3.setCell ⟨gb,i,none⟩ (.slice (some ⟨ws.heap.size,0,none⟩) qn qn)=w4 at*;have hgo4:=(HF4.out.2 go (by omega) hgi).trans HGO.out;obtain⟨⟨_,_,u2,_,_⟩,_⟩:=Ga _ _ _ _ _ _ _ _ hgo4;generalize hgn:o.groups.length=gn at*;generalize hyn:o.syms.length=yn at*;have HGN:=Aa hgn;have HYN:=Aa hyn;have HWS:=Aa hgi;have hmet0:=HMET.out;have HMET0:=Aa hmet0;have HVI:=Aa (show(vs.set i (.slice (some ⟨ws.heap.size,0,none⟩) qn qn))[i]?=some (.slice (some ⟨ws.heap.size,0,none⟩) qn qn) by rw[List.getElem?_set,if_pos rfl,if_pos (by omega)]);have HVL:=Aa (show(vs.set i (Value.slice (some ⟨ws.heap.size,0,none⟩) qn qn)).length=ln by rw[List.length_set];exact hvl);have hrows0:∀W,Fr2 (B+1) ws W→Js W (B+1) (vs.set i (.slice (some ⟨ws.heap.size,0,none⟩) qn qn)) l i:=fun W hW=>(hrowsS.fr2 hW).set;have HROWS:=Aa hrows0;have HSN:=Aa fun(W:World)(k:Nat)(h1:Js W (B+1) (vs.set i (.slice (some ⟨ws.heap.size,0,none⟩) qn qn)) l i)(h2:W.ownsRow (B+1) 4 1 (.slice (some ⟨ws.heap.size,0,none⟩) qn qn) o.secs.length ((Cx l i o o.groups.length).map Value.bool))=>h1.snoc' (v:= .slice (some ⟨ws.heap.size,0,none⟩) qn qn) HO.out (by rw[HVL.out];exact hlt) h2;generalize hvs2:vs.set i (.slice (some ⟨ws.heap.size,0,none⟩) qn qn)=vs2 at*;generalize hgie:ws.heap.size=gi at*;have HGI:=Aa hgie;clear hgie hgo4 hgn hyn hmet0 hrows0 hvs2 hcv hfz hrows4 hrowsS hvl;go_wp2_with fail
   go_loopw [33] (fun r33 wr=>∃(k:Nat)(m:List (ByteArray × Value)),k≤gn∧r33= .int .i64 (k:Int)∧wr.ownsRow gb 138 1 (.slice (some ⟨gb,0,none⟩) ln ln) ln vs2∧En wr B m∧So l i k m∧wr.ownsRow (B+1) 4 1 (.slice (some ⟨gi,0,none⟩) qn qn) qn ((Cx l i o k).map Value.bool)∧Fr2 (B+1) ws wr∧Below gb w wr) (fun r33 _=>gn - (intOf r33).toNat)
   case atStart=>exact⟨0,m,Ak _,rfl,HOWN4.out,HSM4.out,HMET0.out,HROW4.out,HF4.out,HB4.out⟩
   case round=>
    obtain⟨k,m,hk,rfl,hown,hsm,hmet,hrow,hf,hb⟩:=hrel;have HMET:=Aa hmet;clear hmet;by_cases hlt2:k < gn
    ·have hbW:Below w.heap.size w wr:=by rw[HGB.out];exact hb
     obtain⟨b2,off2,g,hpe2,hg,⟨hE0',_⟩,v2,hcv2',q2,c2',rfl,_,_,_,hml⟩:=HGRP.out.at_ (i:=k) (by rw[HGN.out];exact hlt2);subst hpe2;have hE0:=Ax hbW hE0';have hcv2:=Ax hbW hcv2';clear hE0' hcv2';have HG:=Aa hg;have hgm:=Ad hg;obtain⟨n,sy,hgs,hsy,hnm⟩:=HOO.out.sym hgm;have hny:n < yn:=by rw[←HYN.out];exact(Ab.1 hsy).1
     obtain⟨b3,off3,sy',hpe3,hsy',⟨f0,_⟩,_⟩:=(HSYM.out.below Ie.keeps hbW).at_ (i:=n) (by rw[HYN.out];exact hny);subst hpe3;obtain rfl:sy'=sy:=by rw[hsy]at hsy';cases hsy';rfl
     rw[hgs]at hE0;have hmem:=HOO.out.mem g hgm;have hfew:=HOO.out.few.2.2.2.2 g hgm;have hst:=Jea (l:=l) (i:=i) HG.out;have hmv:(Gy sy'.name m).getD (.bool false)= .bool (metB l i k (Ff o g.sym)):=by rw[hnm];exact HMET.out sy'.name
     have hmet2:=Jjs HMET.out HO.out HG.out;obtain⟨mb,hmb⟩:∃mb,mb=metB l i k (Ff o g.sym):=⟨_,rfl⟩
     rw[←hmb]at hst hmv;rw[hnm]at hmet2;have HST:=Aa hst;have HMV:=Aa hmv;have HMET2:=Aa hmet2;have HMEM:=Aa hmem;have HML:=Aa (show Bg 1 Cc w q2 g.members from hml);generalize hmn:g.members.length=mn at*;have HMN:=Aa hmn;have hJ:(k:Int) < (gn:Int):=by omega
     have hJ0:(0:Int)≤(k:Int):=by omega
     have hJ1:¬(gn:Int)≤(k:Int):=by omega
     have hN:(n:Int) < (yn:Int):=by omega
     have hN0:(0:Int)≤(n:Int):=by omega
     have hN1:¬(yn:Int)≤(n:Int):=by omega
     have hgoS:=(hf.2 go (by omega) (by rw[HGI.out];exact HWS.out)).trans HGO.out;have hal:=World.grownBy_alloc wr (.cells #[.int .i64 (n:Int),.slice q2 mn c2'] 100) none;have hgg:=Ah wr (.cells #[.int .i64 (n:Int),.slice q2 mn c2'] 100);have hgbs:gb≤wr.heap.size:=by rw[←HGB.out];exact hb.size
     have hBs:=hsm.lt;have hbx:Below gb w (wr.alloc (.cells #[.int .i64 (n:Int),.slice q2 mn c2'] 100)):=hb.alloc hgbs _;have hgoX:=(hal.block go (Nat.lt_of_lt_of_le (by rw[HGI.out];exact HWS.out) hf.1) (by simp)).trans hgoS;have hownX:=hown.kept hal (.inr (by simp[Value.ownBlock]));have hsmX:=hsm.block (hal.block B hBs (by simp));have hrowX:=hrow.kept hal (.inr (by simp[Value.ownBlock]));have hfX:=hf.grown hal (fun r e=>by cases e);have f0X:=Ax ((Ag _ wr).alloc (Af _) (.cells #[.int .i64 (n:Int),.slice q2 mn c2'] 100)) f0;clear hg hgm hgs hsy hnm hny hsy' hst hmv hmet2 hmb hmem hml hmn hown hsm hrow hf hb hbW hgoS;go_upto_region 10 with fail
     generalize wr.alloc (.cells #[.int .i64 (n:Int),.slice q2 mn c2'] 100)=wx at*;generalize wr.heap.size=gx at*;obtain⟨⟨g0,g1⟩,_⟩:=Bz _ _ _ _ _ hgg;obtain⟨⟨_,u1,_,_,_⟩,_⟩:=Ga _ _ _ _ _ _ _ _ hgoX;have HOWNX:=Aa hownX;have HSMX:=Aa hsmX;have HROWX:=Aa hrowX;have HFX:=Aa hfX;have HBX:=Aa hbx;clear hal hgg hgbs hBs hbx hgoX hownX hsmX hrowX hfX f0 hE0 hcv2;go_upto_region 11 with fail
     go_wp2_with fail
     go_loopw [47] (fun r47 wr=>∃j:Nat,j≤mn∧r47= .int .i64 (j:Int)∧wr.ownsRow gb 138 1 (.slice (some ⟨gb,0,none⟩) ln ln) ln vs2∧En wr B m∧wr.ownsRow (B+1) 4 1 (.slice (some ⟨gi,0,none⟩) qn qn) qn ((Dy (Cx l i o k) (g.members.take j) mb).map Value.bool)∧Fr2 (B+1) ws wr∧Below gb w wr) (fun r47 _=>mn - (intOf r47).toNat)
     case atStart=>exact⟨0,Ak _,rfl,HOWNX.out,HSMX.out,HROWX.out,HFX.out,HBX.out⟩
     case round=>
      obtain⟨j,hj,rfl,hown,hsm,hrow,hf,hb⟩:=hrel;by_cases hjl:j < mn
      ·have hbW:Below w.heap.size w wr:=by rw[HGB.out];exact hb
       obtain⟨b5,off5,x,hpe5,hx,hcx0⟩:=HML.out.at_ (i:=j) (by rw[HMN.out];exact hjl);subst hpe5;have hcx:=Ax hbW hcx0.1;rw[Nat.mul_one]at hcx;have hxm:=HMEM.out x (Ad hx);obtain⟨t,ht⟩:∃t:Nat,x=((t+1:Nat):Int):=⟨(x - 1).toNat,by omega⟩
       have htq:t < qn:=by rw[HQN.out]at hxm;omega
       have hlen:(Dy (Cx l i o k) (g.members.take j) mb).length=qn:=by rw[Pb,Jgj HOO.out,HQN.out]
       have hfz:=hrow.frozenAt t;obtain⟨bv,hbv⟩:∃bv,(Dy (Cx l i o k) (g.members.take j) mb)[t]?=some bv:=⟨_,Ae (by omega)⟩
       have hcl:wr.cell? ⟨gi,t,none⟩=some (.bool bv):=(hrow.cellAt t (by omega)).trans (by rw[List.getElem?_map,hbv];rfl);have hca:=hown.cellAt i (by omega);rw[HVI.out]at hca;have hrowD:wr.drew.ownsRow (B+1) 4 1 (.slice (some ⟨gi,0,none⟩) qn qn) qn ((Dy (Cx l i o k) (g.members.take j) mb).map Value.bool):=hrow;have hownD:wr.drew.ownsRow gb 138 1 (.slice (some ⟨gb,0,none⟩) ln ln) ln vs2:=hown;have hsmD:En wr.drew B m:=hsm.block rfl;have hfD:Fr2 (B+1) ws wr.drew:=⟨hf.1,hf.2⟩
       have hbD:Below gb w wr.drew:=hb.drew;have hlk:=hsmD.get sy'.name (P:=Tryz.prog) (t:=199) Tryz.underlying199 Tryz.underlying9 (Jm5 wr.drew);rw[Ry,HMV.out]at hlk;have hst:=hrowD.stored t (.bool mb);have hset:((Dy (Cx l i o k) (g.members.take j) mb).map Value.bool).set t (.bool mb)=(Dy (Cx l i o k) (g.members.take (j+1)) mb).map Value.bool:=by
        rw[Sl hx,Vp,List.map_set,ht,show(((t+1:Nat):Int) - 1).toNat=t by omega]
       rw[hset]at hst;have hgi6:=(hrow.lt _ rfl)
       have hgiw:ws.heap.size≤gi:=by rw[HGI.out];exact Af _
       have hown6:=hownD.kept hst.2 (.inr (by simp[Value.ownBlock];omega));have hsm6:=hsmD.block (hst.2.block B hsmD.lt (by simp;omega));have hf6:=hfD.grown hst.2 (fun r e=>by cases e;omega);have hb6:=hbD.grown hst.2 (by rw[←HGB.out];exact hbD.size) (fun r e=>by cases e;omega);have HST6:=Aa hst.1;have HOWN6:=Aa hown6;have HSM6:=Aa hsm6;have HF6:=Aa hf6;have HB6:=Aa hb6;have k1:IntKind.i64.wrap (x - 1)=(t:Int):=by rw[show x - 1=(t:Int) by omega];exact Al _ (by omega)
       have hJ3:(j:Int) < (mn:Int):=by omega
       have hJ4:(t:Int) < (qn:Int):=by omega
       have hJ5:(0:Int)≤(t:Int):=by omega
       have hJ6:(0:Int)≤(j:Int):=by omega
       have hJ7:¬(mn:Int)≤(j:Int):=by omega
       have hJ8:¬(qn:Int)≤(t:Int):=by omega
       clear hx hcx0 hxm ht hlen hbv hst hset hown hsm hrow hf hb hbW hown6 hsm6 hf6 hb6 hrowD hownD hsmD hfD hbD;go_upto_region 14 with fail
       go_still_tail 10,(by kernel_rfl)
       go_wp2_with fail
       go_roundw
       case rel=>exact⟨j+1,hjl,by go_num,HOWN6.out,HSM6.out,HST6.out,HF6.out,HB6.out⟩
       case measure=>simp[intOf];omega
      ·have hJ3:¬(j:Int) < (mn:Int):=by omega
       have hrow5:wr.ownsRow (B+1) 4 1 (.slice (some ⟨gi,0,none⟩) qn qn) qn ((Cx l i o (k+1)).map Value.bool):=by
        rw[HST.out];rw[List.take_of_length_le (by rw[HMN.out];omega)]at hrow;exact hrow
       have HROW5:=Aa hrow5;have HOWN5:=Aa hown;have HSM5:=Aa hsm;have HF5:=Aa hf;have HB5:=Aa hb;have hsz5:gb≤wr.heap.size:=by rw[←HGB.out];exact hb.size
       have hBs5:=hsm.lt;have hgi5:=(hrow.lt _ rfl)
       clear hrow hrow5 hown hsm hf hb;go_wp2_with (at_mapUpdate;refine Kf _ rfl (.tmp 62) (.tmp 63) (.const (.bool true)) 199 rfl 9 4 Tryz.underlying199 Tryz.underlying9 B m rfl HSM5.out sy'.name rfl (.bool true) rfl ?_)
       intro w6 hsm6 hgr6;have hown6:=HOWN5.out.kept hgr6 (.inr (by simp[Value.ownBlock];omega));have hrow6:=HROW5.out.kept hgr6 (.inr (by simp[Value.ownBlock];omega));have hf6:=HF5.out.grown hgr6 (fun r e=>by cases e;omega);have hb6:=HB5.out.grown hgr6 hsz5 (fun r e=>by cases e;omega);have HSM6:=Aa hsm6;clear hsm6 hgr6;go_wp2_with fail
       go_roundw
       case rel=>exact⟨k+1,_,hlt2,by go_num,hown6,HSM6.out,HMET2.out,hrow6,hf6,hb6⟩
       case measure=>simp[intOf];omega
    ·obtain rfl:k=gn:=by omega
     have hK:¬(k:Int) < (k:Int):=by omega
     have hnext:=Jjd HMET.out HO.out (by rw[HGN.out];exact Af _);have hrw:=HSN.out wr k (HROWS.out wr hf) (by rw[HQN.out,HGN.out];exact hrow);go_wp2_with fail
     go_roundw
     case rel=>exact⟨i+1,vs2,m,hlt,by go_num,hown,hsm,hnext,hrw,hb⟩
     case measure=>simp[intOf];omega
  ·obtain rfl:i=ln:=by omega
   have hI:¬(i:Int) < (i:Int):=by omega
   go_wp2_with fail
   go_ret;exact⟨_,rfl,fun W hW=>HEND.out _ _ _ (Jd8 hown (show Fr2 gb wr W from hW) (Af _)) (hrows.fr2 ⟨hW.1,fun g hg=>hW.2 g (by omega)⟩),hb⟩
theorem Jgk{D:List (List Bool)}{b:Bb→Int}{x:Sy}{m m':List Bb}(h:ownStep D b x m=some m'):m'.length≤m.length+1:=by
 unfold ownStep at h;cases hd:Cw x.2.2 (Cz D x.1)with
 |false=>rw[hd]at h;cases h;omega
 |true=>
  rw[hd]at h;simp only[cond_true]at h;cases hf:m.find? (fun e=>sEq e.name x.2.2.name)with
  |none=>rw[hf]at h;cases h;simp
  |some d=>
   rw[hf]at h;simp only at h;cases h1:(b d==1&&x.2.2.bind==1)with
   |true=>rw[h1]at h;cases h
   |false=>
    rw[h1]at h;simp only[cond_false]at h;cases h2:(x.2.2.bind==1)with
    |true=>rw[h2]at h;cases h;simp
    |false=>rw[h2]at h;cases h;omega
theorem Uz{D:List (List Bool)}{b:Bb→Int}:∀{xs:List Sy}{m m':List Bb},Dw D b xs m=some m'→m'.length≤m.length+xs.length
 | [],m,m',h=>by cases h;simp
 |x::xs,m,m',h=>by
  have h:(match ownStep D b x m with|none=>none|some m1=>Dw D b xs m1)=some m':=h;cases hs:ownStep D b x m with
  |none=>rw[hs]at h;cases h
  |some m1=>
   rw[hs]at h;have h1:=Jgk hs;have h2:=Uz h;simp only[List.length_cons];omega
theorem Pt{l:List Az}(hok:∀o∈l,OkD o):∀n,(Bc Az.syms l n).length≤1000*n
 |0=>Af _
 |n+1=>by
  have ih:=Pt hok n;have e:Bc Az.syms l (n+1)=Bc Az.syms l n++match l[n]? with|some o=>Eh Az.syms n o|none=> []:=rfl
  rw[e,List.length_append];cases ho:l[n]? with
  |none=>simp;omega
  |some o=>
   have h2:=(hok o (Ad ho)).few.2.1;simp only[He];omega
def Jkg(r:Option (List Bb))(w:World)(e:Ending)(w':World):Prop:=
 (r=none∧e= .returned (.tuple #[.slice none 0 0,.bool false])∨∃ms u defs,r=some ms∧e= .returned (.tuple #[u,.bool true])∧(∀W,Fr2 w.heap.size w' W→IsL 3 Dg W u defs)∧Dz defs∧(∀d,d∈defs ↔ d∈ms)∧defs.length=ms.length)∧Below w.heap.size w w'
def Sz:Prop:=∀(W:World)(B:Nat)(ms:List Bb),En W B (Fd ms)→Iw ms→ms.length≤10000000→
 Calls Tryz.prog 107 #[.map (some B)] W fun e w'=>∃v,e= .returned v∧Below W.heap.size W w'∧
  Calls Tryz.prog 106 #[v,.func (.func 108) #[] #[]] w' fun e w''=>∃u defs,e= .returned u∧(∀W,Fr2 w'.heap.size w'' W→IsL 3 Dg W u defs)∧Dz defs∧(∀d,d∈defs ↔ d∈ms)∧defs.length=ms.length∧Below w'.heap.size w' w''
theorem Jqw(w:World):(zeroValue 60).run Tryz.prog w= .ok (.agg (Dh noDef)) w:=by kernel_rfl
theorem Ji2(HSV:Sz)(p pd:Option Addr)(c cd:Nat)(l:List Az)(D:List (List Bool))(w:World)(h:Bg 5 Cg w p l)(hok:∀o∈l,OkD o)(hlc:l.length≤1000)(hD:Er w pd l D):
 Calls Tryz.prog 54 #[.slice p l.length c,.slice pd D.length cd] w (Jkg (Dw D (Di l) (Bc Az.syms l l.length) []) w):=by
 obtain⟨R,hR⟩:∃R,R=Dw D (Di l) (Bc Az.syms l l.length) []:=⟨_,rfl⟩
 rw[←hR];have hmm:=@run_makeMap Tryz.prog;have HR:=Aa hR;have HH:=Aa fun W (hW:Below w.heap.size w W)=>h.below Cg.keeps hW;have HDD:=Aa fun W (hW:Below w.heap.size w W)=>hD.below hW;have HDR:=Aa hD.row;have HDL:=Aa hD.len;have HOK:=Aa hok;have hsm0:=En.made w;have hb0:Below w.heap.size w (w.alloc (.map #[] 0)):=(Ag _ w).alloc (Af _) _;generalize hdn:D.length=dn at*;have HDN:=Aa hdn;generalize hln:l.length=ln at*;have HLN:=Aa hln;have hdl:dn=ln:=HDL.out;subst hdl;clear h hok hD hdn hln hR;go_enter Tryz.func54,Tryz.ntmps54;go_upto_region 2 with fail
 generalize w.alloc (.map #[] 0)=w1 at*;generalize hgb:w.heap.size=gb at*;have HGB:=Aa hgb;clear hgb;go_wp2_with fail
 go_loopw [17] (fun r17 wr=>∃(i:Nat)(ms:List Bb),i≤dn∧r17= .int .i64 (i:Int)∧Dw D (Di l) (Bc Az.syms l i) []=some ms∧En wr gb (Fd ms)∧Below gb w wr) (fun r17 _=>dn - (intOf r17).toNat)
 case atStart=>exact⟨0, [],Ak _,rfl,rfl,hsm0,hb0⟩
 case round=>
  obtain⟨i,ms,hi,rfl,hgo,hsm,hb⟩:=hrel;have HGO:=Aa hgo;have HSM:=Aa hsm;clear hgo hsm;by_cases hlt:i < dn
  ·obtain⟨o,ho⟩:∃o,l[i]?=some o:=⟨_,Ae (by rw[HLN.out];exact hlt)⟩
   obtain⟨b,off,p0,p1,p2,p4,c0,c1,c2,c4,hpe,e0',e1',e2',e3',e4',_,hsy,_⟩:=Du (HH.out w (by rw[←HGB.out];exact Ag _ w)) ho;subst hpe;have hbW:Below w.heap.size w wr:=by rw[HGB.out];exact hb
   have e0:=Ax hbW e0';have e1:=Ax hbW e1';have e2:=Ax hbW e2';have e3:=Ax hbW e3';have e4:=Ax hbW e4';have HSYM:=Aa hsy;have HO:=Aa ho;have hoo:=HOK.out o (Ad ho);have hql:=hoo.few.1;have hyl:=hoo.few.2.1;have HOO:=Aa hoo;have hI:(i:Int) < (dn:Int):=by omega
   have hI0:(0:Int)≤(i:Int):=by omega
   have hI1:¬(dn:Int)≤(i:Int):=by omega
   have hI2:¬(i:Int) < 0:=by omega
   have hgbs:gb≤wr.heap.size:=by rw[←HGB.out];exact hb.size
   have HGO0:Hid (Dw D (Di l) (Bo Az.syms l i 0) []=some ms):=Aa (by rw[Eb];exact HGO.out);clear ho hoo e0' e1' e2' e3' e4' hsy hbW;go_upto_region 5 with fail
   have hsm2:En (wr.alloc (.cells #[.slice p0 o.secs.length c0,.slice p1 o.syms.length c1,.slice p2 o.groups.length c2,.bool o.hasSig,.slice p4 o.sig.length c4] 27)) gb (Fd ms):=HSM.out.block ((World.grownBy_alloc wr _ none).block gb HSM.out.lt (by simp));have hb2:Below gb w (wr.alloc (.cells #[.slice p0 o.secs.length c0,.slice p1 o.syms.length c1,.slice p2 o.groups.length c2,.bool o.hasSig,.slice p4 o.sig.length c4] 27)):=hb.alloc hgbs _;obtain⟨⟨_,u1,_,_,_⟩,_⟩:=Ga _ _ _ _ _ _ _ _ (Ah wr (.cells #[.slice p0 o.secs.length c0,.slice p1 o.syms.length c1,.slice p2 o.groups.length c2,.bool o.hasSig,.slice p4 o.sig.length c4] 27));generalize wr.alloc (.cells #[.slice p0 o.secs.length c0,.slice p1 o.syms.length c1,.slice p2 o.groups.length c2,.bool o.hasSig,.slice p4 o.sig.length c4] 27)=ws at*;generalize wr.heap.size=go at*;generalize hyn:o.syms.length=yn at*;have HYN:=Aa hyn;have HSM2:=Aa hsm2;have HB2:=Aa hb2;clear hyn hsm2 hb2 hb e0 e1 e2 e3 e4 HGO HSM;go_wp2_with fail
   go_loopw [25] (fun r25 wr=>∃(k:Nat)(ms:List Bb),k≤yn∧r25= .int .i64 (k:Int)∧Dw D (Di l) (Bo Az.syms l i k) []=some ms∧En wr gb (Fd ms)∧Below gb w wr) (fun r25 _=>yn - (intOf r25).toNat)
   case atStart=>exact⟨0,ms,Ak _,rfl,HGO0.out,HSM2.out,HB2.out⟩
   case round=>
    obtain⟨k,ms,hk,rfl,hgo,hsm,hb⟩:=hrel;have HGO:=Aa hgo;have HSM:=Aa hsm;clear hgo hsm;by_cases hlt2:k < yn
    ·have hbW:Below w.heap.size w wr:=by rw[HGB.out];exact hb
     obtain⟨b1,off1,x,hpe1,hx1,⟨f0,_⟩,⟨f1,_⟩,⟨f2,_⟩,⟨f3,_⟩,⟨f4,_⟩,⟨f5,_⟩⟩:=(HSYM.out.below Ie.keeps hbW).at_ (i:=k) (by rw[HYN.out];exact hlt2);subst hpe1;have hK:(k:Int) < (yn:Int):=by omega
     have hK0:(0:Int)≤(k:Int):=by omega
     have hK1:¬(yn:Int)≤(k:Int):=by omega
     have HX:=Aa hx1;have hstep:=Yi (D:=D) (bindOf:=Di l) (x:=(i,k,x)) (ys:=Bo Az.syms l i k) (m:= []);rw[←Fp HO.out HX.out,HGO.out,Option.bind_some]at hstep;have HSTEP:=Aa hstep;have hgbs2:gb≤wr.heap.size:=by rw[←HGB.out];exact hb.size
     clear hx1 hstep hbW;go_upto_region 8 with fail
     have hb7:Below wr.heap.size wr (wr.alloc (.cells #[.string x.name,.int .i64 x.bind,.int .i64 x.type,.int .i64 x.sec,.int .i64 x.value,.int .i64 x.size] 98)):=(Ag _ wr).alloc (Af _) _;have hb7g:Below gb w (wr.alloc (.cells #[.string x.name,.int .i64 x.bind,.int .i64 x.type,.int .i64 x.sec,.int .i64 x.value,.int .i64 x.size] 98)):=hb.alloc hgbs2 _;have hsm7:=HSM.out.below hb7;obtain⟨x0,x1,x2,x3,x4,x5⟩:=Ky _ _ _ _ _ _ _ _ _ (Ah wr (.cells #[.string x.name,.int .i64 x.bind,.int .i64 x.type,.int .i64 x.sec,.int .i64 x.value,.int .i64 x.size] 98));generalize wr.alloc (.cells #[.string x.name,.int .i64 x.bind,.int .i64 x.type,.int .i64 x.sec,.int .i64 x.value,.int .i64 x.size] 98)=w7 at*;generalize wr.heap.size=g7 at*;have HSM7:=Aa hsm7;have HB7:=Aa hb7g;have hdd:=HDD.out w7 (by first|exact hb7g|(rw[HGB.out];exact hb7g));obtain⟨bd,od,qd,cq,hpd,hdc,hdh⟩:=Oa hdd.has (show i < D.length by rw[HDN.out];exact hlt);subst hpd;have hsec:=HOO.out.sec x (Ad HX.out);have hrow:=HDR.out i o HO.out;rw[←hrow]at hsec hql;have HDF:=Aa fun W (hW:Below w7.heap.size w7 W)=>Jeh x qd (Cz D i).length cq (Cz D i) W (hdh.below Ij.keeps hW) rfl hsec (by omega);clear hb7 hb7g hsm7 hdd hdh hsec f0 f1 f2 f3 f4 f5 hb;obtain⟨df,hdf⟩:∃df,df=Cw x (Cz D i):=⟨_,rfl⟩
     rw[←hdf]at HDF;have HDFE:=Aa hdf;generalize (Cz D i).length=rn at*;clear hdf hrow;have hq:ownStep D (Di l) (i,k,x) ms=bif df then
      match ms.find? (fun e=>sEq e.name x.name)with
      |some d=>bif Di l d==1&&x.bind==1 then none else
       bif x.bind==1 then some (ms.map fun e=>bif sEq e.name x.name then⟨x.name,i,k⟩else e)else some ms
      |none=>some (ms++ [⟨x.name,i,k⟩])
      else some ms:=by rw[HDFE.out];rfl
     rw[hq]at HSTEP;clear hq;go_still_tail 5,(by kernel_rfl)
     go_wp2_with fail
     refine(HDF.out _ ((Ag _ w7).drew)).mono ?_;rintro e w8 ⟨rfl,hb8⟩;have hb8':Below w7.heap.size w7 w8:=((Ag _ w7).drew).trans hb8;have hsm8:=HSM7.out.below hb8';have hb8g:Below gb w w8:=HB7.out.trans (hb8'.mono (by first|exact HB7.out.size|(rw[←HGB.out];exact HB7.out.size)));have y0:=Ax hb8' x0;have y1:=Ax hb8' x1;have HSM8:=Aa hsm8;have HB8:=Aa hb8g;clear hsm8 hb8 hb8' hb8g x0 x1 x2 x3 x4 x5 hdc;cases df with
     |false=>
      have hE:Hid (Dw D (Di l) (Bo Az.syms l i (k+1)) []=some ms):=Aa HSTEP.out;go_wp2_with fail
      go_roundw
      case rel=>exact⟨k+1,ms,hlt2,by go_num,hE.out,HSM8.out,HB8.out⟩
      case measure=>simp[intOf];omega
     |true=>
      rw[cond_true]at HSTEP;have hmv:=Jew x.name ms;obtain⟨fd,hfd⟩:∃fd,fd=ms.find? fun e=>sEq e.name x.name:=⟨_,rfl⟩
      rw[←hfd]at HSTEP hmv;have hmv1:(Gy x.name (Fd ms)).getD (.agg (Dh noDef))= .agg (Dh (fd.getD noDef)):=by rw[hmv];cases fd<;>rfl
      have hmv2:(Gy x.name (Fd ms)).isSome=fd.isSome:=by rw[hmv];cases fd<;>rfl
      have HFD:=Aa hfd;have HMV1:=Aa hmv1;have HMV2:=Aa hmv2;clear hmv hmv1 hmv2 hfd;obtain⟨d,hd⟩:∃d,d=fd.getD noDef:=⟨_,rfl⟩
      obtain⟨met,hmet⟩:∃met,met=fd.isSome:=⟨_,rfl⟩
      rw[←hd]at HMV1;rw[←hmet]at HMV2;have HD':=Aa hd;have HMET:=Aa hmet;clear hd hmet;go_upto_region 10 with(at_lookup;refine Sk _ rfl (.tmp 38) (.tmp 40) 200 rfl 9 60 Tryz.underlying200 Tryz.underlying9 (.agg (Dh noDef)) Jqw gb (Fd ms) rfl HSM8.out x.name rfl ?_;rw[HMV1.out,HMV2.out])
      have hb9:Below w8.heap.size w8 (w8.alloc (.cells #[.string d.name,.int .i64 (d.obj:Int),.int .i64 (d.sym:Int)] 60)):=(Ag _ w8).alloc (Af _) _;obtain⟨⟨d0,d1,d2⟩,_⟩:=Bj _ _ _ _ _ _ (Ah w8 (.cells #[.string d.name,.int .i64 (d.obj:Int),.int .i64 (d.sym:Int)] 60));have hsm9:=HSM8.out.below hb9;have hb9g:Below gb w (w8.alloc (.cells #[.string d.name,.int .i64 (d.obj:Int),.int .i64 (d.sym:Int)] 60)):=HB8.out.trans (hb9.mono (by first|exact HB8.out.size|(rw[←HGB.out];exact HB8.out.size)));have z0:=Ax hb9 y0;have z1:=Ax hb9 y1;generalize w8.alloc (.cells #[.string d.name,.int .i64 (d.obj:Int),.int .i64 (d.sym:Int)] 60)=w9 at*;generalize w8.heap.size=g8 at*;have HSM9:=Aa hsm9;have HB9:=Aa hb9g;clear hb9 hsm9 hb9g y0 y1 hI hI0 hI1 hI2 hK hK0 hK1;obtain⟨glob,hglob⟩:∃glob,glob=(fd.isSome&&Di l d==1):=⟨_,rfl⟩
      have HGL:=Aa hglob;clear hglob;have hten:∀Q:Prop,Q→Q:=fun _ h=>h;cases hfc:fd with
      |none=>
       rw[hfc]at HFD;obtain rfl:met=false:=by rw[HMET.out,hfc];rfl
       obtain rfl:glob=false:=by rw[HGL.out,hfc];rfl
       rw[hfc]at HSTEP;clear hfc hten;refine No (by kernel_rfl) (by kernel_rfl) ?_
       repeat (go_big_quiet_step (first
        |(intro hWq;go_simp;first|done|rfl|exact⟨rfl,rfl⟩|fail)
        |fail))
       refine wpQuiet_nil ?_;intro wa hwa;have hza0:=Ax hwa z0;have hza1:=Ax hwa z1;have hsma:=HSM9.out.below hwa;have hba:=HB9.out.trans (hwa.mono (by first|exact HB9.out.size|(rw[←HGB.out];exact HB9.out.size)));have HSMA:=Aa hsma;have HBA:=Aa hba;have hput:=Jev (ms:=ms) (d:=⟨x.name,i,k⟩) (Ve HOK.out HGO.out).1;have HPUT:=Aa hput;clear hsma hba hput hwa z0 z1 d0 d1 d2;have hE:Hid (Dw D (Di l) (Bo Az.syms l i (k+1)) []=some (Zj ms ⟨x.name,i,k⟩)):=Aa (by rw[HSTEP.out];unfold Zj;rw[←HFD.out]);go_wp2_with (at_mapUpdate;refine Kf _ rfl (.tmp 72) (.tmp 74) (.tmp 79) 200 rfl 9 60 Tryz.underlying200 Tryz.underlying9 gb (Fd ms) rfl HSMA.out x.name rfl (.agg (Dh ⟨x.name,i,k⟩)) rfl ?_)
       intro wb hsmb hgrb;rw[HPUT.out]at hsmb;have hbb:=HBA.out.grown hgrb (by first|exact HBA.out.size|(rw[←HGB.out];exact HBA.out.size)) (fun r e=>by cases e;omega);have HSMB:=Aa hsmb;clear hsmb hgrb;go_wp2_with fail
       go_roundw
       case rel=>exact⟨k+1,_,hlt2,by go_num,hE.out,HSMB.out,hbb⟩
       case measure=>simp[intOf];omega
      |some d'=>
       rw[hfc]at HFD;obtain rfl:met=true:=by rw[HMET.out,hfc];rfl
       obtain rfl:d=d':=by rw[HD'.out,hfc];rfl
       obtain⟨ob,y,hob,hy,hbi⟩:=Jpv (Ve HOK.out HGO.out) HFD.out.symm;rw[hfc]at HSTEP;simp only[hbi]at HSTEP;obtain rfl:glob=(y.bind==1):=by rw[HGL.out,hfc,hbi];rfl
       have hb9w:Below w.heap.size w w9:=by first|exact HB9.out|(rw[HGB.out];exact HB9.out)
       obtain⟨b4,off4,q0,q1,q2,q4,k0,k1,k2,k4,hpe4,_,t1,_,_,_,_,hsy4,_⟩:=Du (HH.out w9 HB9.out) hob;cases hpe4;have hdl:d.sym < ob.syms.length:=(Ab.1 hy).1;obtain⟨b5,off5,y',hpe5,hy',_,⟨v1,_⟩,_⟩:=hsy4.at_ hdl;subst hpe5;obtain rfl:y'=y:=by rw[hy]at hy';cases hy';rfl
       have hol:d.obj < dn:=by rw[←HLN.out];exact(Ab.1 hob).1
       have hyb2:=(HOK.out ob (Ad hob)).few.2.1;generalize ob.syms.length=yn2 at*;have hM:(d.obj:Int) < (dn:Int):=by omega
       have hM0:(0:Int)≤(d.obj:Int):=by omega
       have hM1:¬(dn:Int)≤(d.obj:Int):=by omega
       have hM2:¬(d.obj:Int) < 0:=by omega
       have hN:(d.sym:Int) < (yn2:Int):=by omega
       have hN0:(0:Int)≤(d.sym:Int):=by omega
       have hN1:¬(yn2:Int)≤(d.sym:Int):=by omega
       have hN2:¬(d.sym:Int) < 0:=by omega
       obtain⟨yb,hyb⟩:∃yb,yb=(y'.bind==1):=⟨_,rfl⟩
       have hyb':(y'.bind==1)=yb:=hyb.symm;rw[hyb']at HSTEP;clear hfc hten hob hy hbi hb9w hsy4 hdl hy' hol hyb HGL;refine No (by kernel_rfl) (by kernel_rfl) ?_
       repeat (go_big_quiet_step (first
        |(intro hWq;have w1':=Ax hWq t1;have w2':=Ax hWq v1;have w3':=Ax hWq d0;have w4':=Ax hWq d1;have w5':=Ax hWq d2;go_simp;first|done|rfl|exact⟨rfl,rfl⟩|fail)
        |fail))
       refine wpQuiet_nil ?_;intro wa hwa;have hza0:=Ax hwa z0;have hza1:=Ax hwa z1;have hsma:=HSM9.out.below hwa;have hba:=HB9.out.trans (hwa.mono (by first|exact HB9.out.size|(rw[←HGB.out];exact HB9.out.size)));have HSMA:=Aa hsma;have HBA:=Aa hba;have hput:=Jev (ms:=ms) (d:=⟨x.name,i,k⟩) (Ve HOK.out HGO.out).1;have HPUT:=Aa hput;clear hsma hba hput hwa z0 z1 d0 d1 d2;cases hxb:(x.bind==1)with
       |false=>
        have hE:Hid (Dw D (Di l) (Bo Az.syms l i (k+1)) []=some ms):=Aa (by rw[HSTEP.out,hxb];cases yb<;>rfl);cases yb with
        |true=>
         go_wp2_with fail
         go_roundw
         case rel=>exact⟨k+1,ms,hlt2,by go_num,hE.out,HSMA.out,HBA.out⟩
         case measure=>simp[intOf];omega
        |false=>
         go_wp2_with fail
         go_roundw
         case rel=>exact⟨k+1,ms,hlt2,by go_num,hE.out,HSMA.out,HBA.out⟩
         case measure=>simp[intOf];omega
       |true=>
        cases yb with
        |true=>
         have hE:Hid (R=none):=Aa (by
          have h1:Dw D (Di l) (Bo Az.syms l i (k+1)) []=none:=by rw[HSTEP.out,hxb];rfl
          obtain⟨r,hr⟩:=Wq (f:=Az.syms) (k:=k+1) HO.out;rw[HLN.out]at hr;rw[HR.out,hr]
          exact Xk h1)
         go_wp2_with fail
         exact bodyPost_ret (v:= .tuple #[.slice none 0 0,.bool false]) (by simp[results,Tryz.results54,go_sem]) rfl ⟨.inl ⟨hE.out,rfl⟩,by rw[HGB.out];exact HBA.out⟩
        |false=>
         have hE:Hid (Dw D (Di l) (Bo Az.syms l i (k+1)) []=some (Zj ms ⟨x.name,i,k⟩)):=Aa (by rw[HSTEP.out,hxb];unfold Zj;rw[←HFD.out];rfl);go_wp2_with (at_mapUpdate;refine Kf _ rfl (.tmp 72) (.tmp 74) (.tmp 79) 200 rfl 9 60 Tryz.underlying200 Tryz.underlying9 gb (Fd ms) rfl HSMA.out x.name rfl (.agg (Dh ⟨x.name,i,k⟩)) rfl ?_)
         intro wb hsmb hgrb;rw[HPUT.out]at hsmb;have hbb:=HBA.out.grown hgrb (by first|exact HBA.out.size|(rw[←HGB.out];exact HBA.out.size)) (fun r e=>by cases e;omega);have HSMB:=Aa hsmb;clear hsmb hgrb;go_wp2_with fail
         go_roundw
         case rel=>exact⟨k+1,_,hlt2,by go_num,hE.out,HSMB.out,hbb⟩
         case measure=>simp[intOf];omega
    ·obtain rfl:k=yn:=by omega
     have hK:¬(k:Int) < (k:Int):=by omega
     have hE:Dw D (Di l) (Bc Az.syms l (i+1)) []=some ms:=by rw[←Ia (k:=k) HO.out (by rw[HYN.out];exact Af _)];exact HGO.out
     go_wp2_with fail
     go_roundw
     case rel=>exact⟨i+1,ms,hlt,by go_num,hE,HSM.out,hb⟩
     case measure=>simp[intOf];omega
  ·obtain rfl:i=dn:=by omega
   have hI:¬(i:Int) < (i:Int):=by omega
   have hE:Hid (R=some ms):=Aa (by rw[HR.out];exact HGO.out);have hap:Iw ms:=by
    have h0:Dw D (Di l) (Bo Az.syms l i 0) []=some ms:=by rw[Eb];exact HGO.out
    exact(Ve HOK.out h0).1
   have HAP:=Aa hap;clear hap;have hml:ms.length≤10000000:=by
    have h1:=Uz HGO.out;have h2:=Pt HOK.out i;simp only[List.length_nil]at h1;omega
   have hv:=HSV wr gb ms HSM.out HAP.out hml;clear hml;go_wp2_with fail
   refine hv.mono ?_;rintro e w2 ⟨v,rfl,hb2,hs⟩;go_wp2_with fail
   refine hs.mono ?_;rintro e w3 ⟨u,defs,rfl,h1,h2,h3,h4,hb3⟩;have hbe:Below gb w w3:=hb.trans ((hb2.trans (hb3.mono hb2.size)).mono (by first|exact hb.size|(rw[←HGB.out];exact hb.size)));go_wp2_with fail
   exact bodyPost_ret (v:= .tuple #[u,.bool true]) (by simp[results,Tryz.results54,go_sem]) rfl ⟨.inr ⟨ms,u,defs,hE.out,rfl,fun W hW=>h1 W ⟨hW.1,fun g hg=>hW.2 g (by have:=hb.size;have:=hb2.size;omega)⟩,h2,h3,h4⟩,by rw[HGB.out];exact hbe⟩
end Go.Proofs.YteopgmieindojaaGreat
namespace Go.Proofs.YteopgmieindojaaGreat
open Go.RowKit Go.Shelf Go.Sort Go.Lib
instance:Inhabited Bb:=⟨noDef⟩
theorem Jmx(d e:Bb)(w:World):Calls Tryz.prog 108 #[.agg (Dh d),.agg (Dh e)] w fun en w'=>en= .returned (.int .i64 (Mp d.name e.name))∧∃q os',w'=grow (w.drewN q) os':=by
 have HC:=Aa fun W=>Wk d.name e.name W;obtain⟨w1,hw1⟩:∃w1,w1=w.alloc (.cells (Dh d) 60):=⟨_,rfl⟩
 obtain⟨w2,hw2⟩:∃w2,w2=w1.alloc (.cells (Dh e) 60):=⟨_,rfl⟩
 have hg:=Ah w (.cells (Dh d) 60);have s1:w1.heap.size=w.heap.size+1:=by rw[hw1];simp
 rw[←hw1]at hg;have hg2:=Ah w1 (.cells (Dh e) 60);rw[←hw2,s1]at hg2;have hg1:w2.heap[w.heap.size]?=some (.cells (Dh d) 60 (0,0)):=by
  rw[hw2];exact(Below.heap_alloc w1 _ _ (by omega)).trans hg
 obtain⟨⟨x0,x1,x2⟩,_⟩:=Bj _ _ _ _ _ _ hg1;obtain⟨⟨y0,y1,y2⟩,_⟩:=Bj _ _ _ _ _ _ hg2;have hgr:w2=grow (w.drewN 0) #[.cells (Dh d) 60,.cells (Dh e) 60]:=by
  rw[hw2,hw1,alloc_eq_grow,alloc_eq_grow,grow_grow];rfl
 have HW1:=Aa hw1;have HW2:=Aa hw2;have HGR:=Aa hgr;clear hg hg2 hg1 hw1 hw2 s1 hgr;go_enter Tryz.func108,Tryz.ntmps108;go_upto_region 1 with fail
 rw[←HW1.out,←HW2.out];clear HW1 HW2;go_wp2_with fail
 refine(HC.out _).mono ?_;rintro en w' ⟨rfl,rfl⟩;go_wp2_with fail
 go_ret;exact⟨rfl,0,_,HGR.out⟩
theorem Je8(blk off size:Nat)(w:World):CmpLays Tryz.prog 108 #[] Im 3 (fun d e:Bb=>Mp d.name e.name) blk off size w:=
 fun _ _ _ _ x y=>Jmx x y _
theorem Jqc:SWO (ltOf fun d e:Bb=>Mp d.name e.name) where
 irrefl x:=by
  unfold ltOf;have:=Jab.2 (rfl:x.name=x.name);simp[this]
 trans x y z h1 h2:=by
  unfold ltOf at*;simp only[decide_eq_true_eq,Se,Lu]at*;exact List.lt_trans h1 h2
 ntrans x y z h1 h2:=by
  unfold ltOf at*;simp only[decide_eq_false_iff_not,Se,Lu,List.not_lt]at*;exact List.le_trans h2 h1
theorem Jjj:∀w,(isAgg 60).run Tryz.prog w= .ok true w:=Tryz.isAgg60
theorem Jhf:∀w,(Go.sizeOf 60).run Tryz.prog w= .ok 3 w:=Tryz.sizeOf60
theorem Jh5:∀args w,(callFunc 108 args).run Tryz.prog w= .ok (.enter 108 args) w:=enters_of Tryz.func108 (by kernel_rfl) rfl
theorem Jlf(blk off cap:Nat)(d:Array Bb)(w:World)(hH:HoldsK Im 3 w blk off d)(hblk:blk < w.heap.size)(hsz:d.size < 4611686018427387904):
 Calls Tryz.prog 160 #[.slice (some ⟨blk,off,none⟩) d.size cap,.func (.func 108) #[] #[]] w fun e w'=>e= .returned (.tuple #[])∧∃d' n os,PermIn 0 d.size d d'∧SortedIn (ltOf fun d e:Bb=>Mp d.name e.name) 0 d.size d'∧w'=sortWorldK Im 3 w blk off n d' os:=
 AnyQ.slices_SortFunc Tryz.sortDef 3 Jjj Jhf Im (fun _=>rfl) (fun x v hv=>Jeo x v hv) (fun d e:Bb=>Mp d.name e.name) Jqc 108 #[] blk off cap d w Jh5 (Je8 blk off d.size w) hH hblk hsz
theorem Joe(p:Option Addr)(cap:Nat)(fv:Value)(w:World):
 Calls Tryz.prog 160 #[.slice p 0 cap,fv] w fun e w'=>e= .returned (.tuple #[])∧w'=w:=
 AnyF.slices_SortFunc_none Tryz.sortDef p cap fv w
def Xs:Value→Bb
 | .agg cs=>match cs.toList with
   | [.string n,.int _ o,.int _ s]=>⟨n,o.toNat,s.toNat⟩
   |_=>noDef
 |_=>noDef
theorem Jhs(d:Bb):Xs (Ll d)=d:=by
 cases d;simp[Xs]
theorem Jd9{a b:List Bb}(h:(a.map Ll).Perm (b.map Ll)):a.Perm b:=by
 have h2:=h.map Xs;simp only[List.map_map]at h2;have e:∀l:List Bb,l.map (Xs ∘ Ll)=l:=fun l=>by
  rw[show(Xs ∘ Ll)=id from funext Jhs,List.map_id]
 rwa [e,e]at h2
theorem Zg{d d':Array Bb}(h:PermIn 0 d.size d d'):d'.toList.Perm d.toList:=by
 obtain⟨hs,_,hp⟩:=h;rw[Array.extract_eq_self_of_le (by omega),Array.extract_eq_self_of_le (Af _)]at hp;exact hp
theorem Jj8{d':Array Bb}{n:Nat}(hn:d'.size=n)(h:SortedIn (ltOf fun d e:Bb=>Mp d.name e.name) 0 n d')(ha:Iw d'.toList):Dz d'.toList:=by
 unfold Dz;rw[List.pairwise_iff_getElem];intro i j hi hj hij;have hi':i < d'.size:=by simpa using hi
 have hj':j < d'.size:=by simpa using hj
 have h1:=h i j (Ak _) hij (by omega);have h2:=(List.pairwise_iff_getElem.1 ha) i j hi hj hij;rw[getElem!_pos d' i hi',getElem!_pos d' j hj']at h1;unfold ltOf at h1;simp only[decide_eq_false_iff_not,Se]at h1;simp only[Array.getElem_toList]at h2⊢;refine Ub ?_ (by simpa using h1);cases hq:sEq d'[j].name d'[i].name with
 |false=>rfl
 |true=>exact absurd (Df.1 hq).symm h2
theorem Jgl{enc:Bb→List Value}{k:Nat}{w:World}{blk off n:Nat}{d:Array Bb}{os:Array Obj}{g:Nat}(hg:g≠blk)(hl:g < w.heap.size):(sortWorldK enc k w blk off n d os).heap[g]?=w.heap[g]?:=by
 unfold sortWorldK grow putRowK putRow mapBlock;simp only;rw[Array.getElem?_append_left (by simpa[Sort.ahead]using hl),Array.getElem?_modify];rw[if_neg (fun e=>hg e.symm)];rfl
theorem Xx{enc:Bb→List Value}{k:Nat}{w:World}{blk off n:Nat}{d:Array Bb}{os:Array Obj}:w.heap.size≤(sortWorldK enc k w blk off n d os).heap.size:=by
 unfold sortWorldK grow putRowK putRow mapBlock;simp[Sort.ahead]
theorem Jf9{enc:Bb→List Value}{k:Nat}{w:World}{blk off n N:Nat}{d:Array Bb}{os:Array Obj}(hN:N≤blk)(hs:N≤w.heap.size):Go.RowKit.Below N w (sortWorldK enc k w blk off n d os):=
 ⟨rfl,rfl,rfl,Xx,fun g hg=>Jgl (by omega) (by omega)⟩
theorem Jbr{w:World}{N g cap:Nat}{defs:List Bb}(h:w.ownsRow N 60 3 (.slice (some ⟨g,0,none⟩) defs.length cap) defs.length (defs.flatMap Im)):HoldsK Im 3 w g 0 defs.toArray:=fun j hj=>by
 have hj':j < defs.length*3:=by simpa using hj
 have hdiv:j / 3 < defs.length:=by omega
 have hx:defs[j / 3]?=some defs[j / 3]:=Ae hdiv;have hm:j % 3 < (Im defs[j / 3]).length:=by rw[Vs];omega
 have hf:=Ks (k:=3) (f:=Im) Vs defs (j / 3) defs[j / 3] (j % 3) _ hx (Ae hm);rw[show j / 3*3+j % 3=j by omega]at hf;have hgk:=get_flatK Im 3 defs.toArray j (by simpa using hj');rw[getElem!_pos defs.toArray (j / 3) (by simpa using hdiv)]at hgk;simp only[List.getElem_toArray]at hgk;rw[getElem!_pos (Im defs[j / 3]) (j % 3) hm]at hgk;rw[Nat.zero_add,hgk];exact⟨(h.cellAt j hj').trans hf,h.frozenAt j⟩
theorem Jb4{w:World}{g:Nat}{d:Array Bb}(h:HoldsK Im 3 w g 0 d):Bg 3 Dg w (some ⟨g,0,none⟩) d.toList:=fun i x hx=>by
 have hi:i < d.size:=by simpa using(Ab.1 hx).1
 have hxd:d[i]! =x:=by
  rw[getElem!_pos d i hi];have:=(Ab.1 hx).2;simpa using this
 have hc:=fun c (hc:c < 3)=>(h.cell (i:=i) (c:=c) hi hc).1;rw[hxd]at hc;exact⟨g,0,rfl,hc 0 (by omega),hc 1 (by omega),hc 2 (by omega)⟩
def Sorts(defs:List Bb)(N g:Nat)(w:World)(e:Ending)(w':World):Prop:=e= .returned (.tuple #[])∧∃ds:List Bb,ds.Perm defs∧(Iw ds→Dz ds)∧Bg 3 Dg w' (some ⟨g,0,none⟩) ds∧Go.RowKit.Below N w w'∧g < w'.heap.size
theorem Jjm(N g cap dn:Nat)(defs:List Bb)(hdn:defs.length=dn)(w:World)(hown:w.ownsRow N 60 3 (.slice (some ⟨g,0,none⟩) dn cap) dn (defs.flatMap Im))(hN:N≤g)(hs:N≤w.heap.size)(hgl:g < w.heap.size)(hsz:dn≤10000000):
 Calls Tryz.prog 160 #[.slice (some ⟨g,0,none⟩) dn cap,.func (.func 108) #[] #[]] w (Sorts defs N g w):=by
 subst hdn;have hH:=Jbr hown;have h:=Jlf g 0 cap defs.toArray w hH hgl (by simp;omega);rw[List.size_toArray]at h;refine h.mono fun e w' hpost=>?_;obtain⟨he,d',n,os,hperm,hsort,hw⟩:=hpost;have hpd:d'.toList.Perm defs:=by
  have:=Zg (d:=defs.toArray) (by rw[List.size_toArray];exact hperm);simpa using this
 have hds:d'.size=defs.length:=by have:=hpd.length_eq;simpa using this
 have hH2:HoldsK Im 3 (sortWorldK Im 3 w g 0 n d' os) g 0 d':=
  holdsK_grow _ _ _ os g 0 d' (by simp[putRowK,putRow,mapBlock,Sort.ahead];exact hgl) (holdsK_putRowK Im 3 (Sort.ahead w n) g 0 defs.toArray d' (holdsK_ahead Im 3 w n g 0 _ hH) (by rw[List.size_toArray];exact hds))
 rw[←hw]at hH2;exact⟨he,d'.toList,hpd,fun ha=>Jj8 hds hsort ha,Jb4 hH2,by rw[hw];exact Jf9 hN hs,by rw[hw];exact Nat.lt_of_lt_of_le hgl Xx⟩
theorem Jfi:Sz:=fun W B ms hsm hap hlen=>by
 refine(Ji7 B W).mono ?_;rintro e w' ⟨rfl,hbox,hb⟩;refine⟨_,rfl,hb,?_⟩;have hcell:w'.cell? ⟨W.heap.size,0,none⟩=some (.map (some B)):=(Am _ _ _ _ _ (0,0) hbox).trans rfl;have hcol:=Jf8 W.heap.size B ms hlen w' (Ac.1 hbox).1 hcell (hsm.below hb);have HAP:=Aa hap;have HLEN:=Aa hlen;clear hbox hcell hb hsm hap hlen;go_enter Tryz.func106,Tryz.ntmps106;go_wp2_with fail
 refine hcol.mono ?_;rintro e w1 ⟨u,defs,rfl,hown,hperm,hb1⟩;have hp:=Jd9 hperm;have hpl:=hp.length_eq;have HP:=Aa hp;clear hcol hperm hp;obtain⟨p,c,rfl,hc1,hc2,hc3⟩:=Bl hown;rcases Nat.eq_zero_or_pos defs.length with h0|h0
 ·have hd0:defs= []:=List.eq_nil_of_length_eq_zero h0;have hm0:ms= []:=List.eq_nil_of_length_eq_zero (by omega);subst hd0 hm0;have hs:=Joe p c (.func (.func 108) #[] #[]) w1;go_wp2_with fail
  refine hs.mono ?_;rintro e w2 ⟨rfl,rfl⟩;go_wp2_with fail
  go_ret;exact⟨_, [],rfl,fun W2 _=>⟨p,c,rfl,hc1,hc2,hc3,fun i x hx=>by simp at hx⟩,List.Pairwise.nil,fun d=>Iff.rfl,rfl,hb1⟩
 ·obtain⟨g,rfl,hbg,hgl⟩:∃g,p=some ⟨g,0,none⟩∧w'.heap.size≤g∧g < w1.heap.size:=by
   rcases hown.2 with⟨_,h⟩|⟨g,cap,cur,e,hbg,hgg,_⟩
   ·omega
   ·cases e;exact⟨g,rfl,hbg,(Ac.1 hgg).1⟩
  obtain⟨dn,hdn⟩:∃dn,dn=defs.length:=⟨_,rfl⟩
  rw[←hdn]at hown hc1 h0;rw[←hdn];have hs:=Jjm w'.heap.size g c dn defs hdn.symm w1 hown hbg hb1.size hgl (by have:=HLEN.out;omega);have HDN:=Aa hdn;clear hown hdn;go_wp2_with fail
  refine hs.mono ?_;rintro e w2 ⟨rfl,ds,hpd,hsort,hh,hb2,hg2⟩;have hpm:=hpd.trans HP.out;have hap:Iw ds:=(hpm.pairwise_iff (fun{a b} h=>Ne.symm h)).2 HAP.out;have hlist:ds.length=dn:=by rw[HDN.out];exact hpd.length_eq
  have hbe:=hb1.trans hb2;have hdsort:=hsort hap;clear hs hpd hap hsort;go_wp2_with fail
  go_ret;refine⟨_,ds,rfl,fun W2 hW2=>⟨some ⟨g,0,none⟩,c,by rw[hlist];rfl,by rw[hlist];exact hc1,hc2,fun h=>(by cases h),?_⟩,hdsort,fun d=>hpm.mem_iff,by rw[hpm.length_eq],hbe⟩;intro i x hx;obtain⟨b,off,e,h1,h2,h3⟩:=hh i x hx;simp only[Option.some.injEq,Addr.mk.injEq,and_true]at e;obtain⟨rfl,rfl⟩:=e;have hblk:=hW2.2 g hbg hg2;exact⟨g,0,rfl,(World.cell?_of_block hblk).trans h1,(World.cell?_of_block hblk).trans h2,(World.cell?_of_block hblk).trans h3⟩
end Go.Proofs.YteopgmieindojaaGreat
