/- Parts of a proof. -/
import Derived.Test.YteopgmieindojaaGreatGX43
import Derived.Test.YteopgmieindojaaGreatGX44
import Derived.Test.YteopgmieindojaaGreatGX45
import Derived.Test.YteopgmieindojaaGreatGX08
import Derived.Test.YteopgmieindojaaGreatGX31
set_option maxRecDepth 1000000
set_option maxHeartbeats 8000000
namespace Go.Proofs.YteopgmieindojaaGreat
open Go.RowKit
theorem Jlc{w:World}{B g s n c:Nat}{T:TypeId}{xs:List Value}(h:w.ownsRow B T s (.slice (some ⟨g,0,none⟩) n c) n xs):∃cur,w.heap[g]?=some (.cells cur T (0,0)):=by
 rcases h.2 with⟨h',_⟩|⟨g',cap',cur,h',hb,hg,_⟩
 ·simp at h'
 ·simp only[Value.slice.injEq,Option.some.injEq,Addr.mk.injEq,and_true,true_and]at h';obtain⟨rfl,rfl⟩:=h';exact⟨cur,hg⟩
theorem bt15{w4:World}{l:List Az}{defs:List Bb}{p q0 q1:Option Addr}{c g4 g6 c0 c1 g9 gn cn i:Nat}(C:BdC w4 l defs p q0 q1 g4 g6 c0 c1){wi:World}{ns:List Bp}(S:BdS w4 l g9 (some ⟨gn,0,none⟩) cn i wi ns){q:Px}(hq:(Bs l (dropsOf l))[i]?=some q){x:Bp}(hx:ns[i]?=some x)(hxe:x.x={mkN l (dropsOf l) q.1 q.2 with edges:= []})
 {j ce:Nat}{w:World}{pe:Option Addr}(J:BdJ w4 wi l (some ⟨gn,0,none⟩) cn i ns x q j w pe ce)(hm:hasF q.1.2.2.flags 16=false){qr:Option Addr}{cr:Nat}(hR:Bg 4 Hk w4 qr q.1.2.2.rels)(hj:j < q.1.2.2.rels.length)
 {Q:Exit→Act→World→Prop}{v1 v2 v3 v5 v7 v11 v14 v15 v16 v17 v18 v19 v20 v21 v22 v23 v24:Value}{R:List Value}(hRl:R.length=198)
 (hQ:∀(v14 v15 v16 v17 v18:Value)(R':List Value)(w':World)(pe':Option Addr)(ce':Nat),R'.length=198→BdJ w4 wi l (some ⟨gn,0,none⟩) cn i ns x q (j+1) w' pe' ce'→Q .normal ⟨(List.toArray (.slice p l.length c::v1::v2::v3:: .pointer (some ⟨g4,0,none⟩)::v5:: .pointer (some ⟨g6,0,none⟩)::v7:: .slice (some ⟨gn,0,none⟩) (Bs l (dropsOf l)).length cn:: .pointer (some ⟨g9,0,none⟩):: .int .i64 (i:Int)::v11:: .slice qr q.1.2.2.rels.length cr:: .int .i64 (j:Int)::v14::v15::v16::v17::v18::v19::v20::v21::v22::v23::v24::R')), []⟩ w')
 (hE:∀(a:Act)(w':World),a.defers= []→a.tmps.getD 4 undef= .pointer (some ⟨g4,0,none⟩)→a.tmps.getD 5 undef= .int .i64 (Hf l (dropsOf l))→Hf l (dropsOf l)≠0→w'.heap[g4]?=some (.cells zG 77 (0,0))→Below g4 w4 w'→Q .ret a w'):
 (Bt 15).wp Tryz.prog Q ⟨(List.toArray (.slice p l.length c::v1::v2::v3:: .pointer (some ⟨g4,0,none⟩)::v5:: .pointer (some ⟨g6,0,none⟩)::v7:: .slice (some ⟨gn,0,none⟩) (Bs l (dropsOf l)).length cn:: .pointer (some ⟨g9,0,none⟩):: .int .i64 (i:Int)::v11:: .slice qr q.1.2.2.rels.length cr:: .int .i64 (j:Int)::v14::v15::v16::v17::v18::v19::v20::v21::v22::v23::v24::R)), []⟩ w:=by
 have hs:=S.below.size;have hbw:Below w4.heap.size w4 w:=S.below.trans (J.fr.below hs);have hlc:=C.lc;have hil:=(Ab.1 hq).1;have hsl:=S.len;obtain⟨o,ho1,ho2,_⟩:=Jeq (Ad hq);have hol:=(Ab.1 ho1).1;obtain⟨br,orr,r,hqr,hr,⟨r0,_⟩,⟨r1,_⟩,⟨r2,hrb⟩,⟨r3,_⟩⟩:=hR.at_ hj;subst hqr;have hG:=C.sg o (Ad ho1) q.1.2.2 (Ad ho2);have hfewr:=hG.link;have hrel:Mk q.1.2.2=q.1.2.2.rels:=by unfold Mk;rw[hm];rfl
 have hec:(Da l (dropsOf l) q.1)[j]?=some (Fz l (dropsOf l) q.1.1 r).1:=by unfold Da;rw[hrel,List.getElem?_map,hr];rfl
 have hcc:(De l (dropsOf l) q.1)[j]?=some (Fz l (dropsOf l) q.1.1 r).2:=by unfold De;rw[hrel,List.getElem?_map,hr];rfl
 have hg4:g4 < w4.heap.size:=(Ac.1 C.zero).1;have hpl:=Le (D:=dropsOf l) (o:=(q.1.1:Int)) (s:=r.sym) C.ok (Ns C.objs);have a0:w.cell? ⟨gn,i*14,none⟩=some (.int .i64 (q.1.1:Int)):=J.cell hx hsl 0 _ (by unfold Bp.put;rw[hxe];rfl);have HC:∀W,Below w.heap.size w W→Calls Tryz.prog 26 #[.slice p l.length c,.agg #[.slice q0 (dropsOf l).length c0,.slice q1 defs.length c1],.int .i64 (q.1.1:Int),.int .i64 r.sym] W (Kx (Ck l (dropsOf l) q.1.1 r.sym) W):=fun W hW=>by
  have hb:=hbw.trans (hW.mono hbw.size);exact Sf p q0 c c0 q.1.1 r.sym _ l (dropsOf l) W (C.objs.below Cg.keeps hb) C.ok (by omega) (C.drop.below hb) (by unfold Bn;omega) hrb
 obtain⟨P,code,hwb⟩:∃P code,Ck l (dropsOf l) q.1.1 r.sym=(P,code):=⟨_,_,rfl⟩
 rw[hwb]at HC hpl;have hplx:Kw l P:=hpl;have hxb:Below g4 w4 w:=hbw.mono (Ar hg4);rw[Jng];refine wp_seq (Jra (P:=P) (code:=code) (a:=q.1.1) (sy:=r.sym) (hRl) (Cr hbw C.tab) (by omega) (by omega) (by rw[Nat.zero_add];exact a0) (Ax hbw r2) (HC) ?_);intro R1 g14 w1 h1 hP hb1;refine Ba ?_;rw[Jn2];refine wp_seq (wp_seq (Jq6 (h1) ?_));intro R2 h2 h105;refine Ba ?_;by_cases hcd:code=0
 ·refine wp_cond_false ((Ex R2 _ _ _ _ _ _ _ _ _ _ _ _ _ _ _ _ _ _ _ _ _ _ _ _ _ 80).trans (h105.trans (by simp[hcd]))) (wp_skip (Ba ?_));subst hcd;rw[Jme];refine wp_seq (Jr0 (r:=r) (P:=P) (h2) (by omega) (Ax (hbw.trans (hb1.mono hbw.size)) r0) (Ax (hbw.trans (hb1.mono hbw.size)) r1) (Ax (hbw.trans (hb1.mono hbw.size)) r3) (hP) ?_);intro R3 g16 w2 h3 hE16 hg16 hb2;refine Ba ?_;have hP2:=Cr hb2 hP;have hb02:=hb1.trans (hb2.mono hb1.size);have J2:=J.move hb02;have key:∀(t a:Int)(v17 v18:Value)(R4:List Value)(w3:World),R4.length=198→Below w.heap.size w w3→w3.heap[g16]?=some (.cells #[.int .i64 r.off,.int .i64 r.type,.int .i64 r.add,.int .i64 t,.int .i64 a] 92 (0,0))→Fz l (dropsOf l) q.1.1 r=(⟨r.off,r.type,r.add,t,a⟩,0)→(Br 25).wp Tryz.prog Q ⟨(List.toArray (.slice p l.length c::v1::v2::v3:: .pointer (some ⟨g4,0,none⟩)::v5:: .pointer (some ⟨g6,0,none⟩)::v7:: .slice (some ⟨gn,0,none⟩) (Bs l (dropsOf l)).length cn:: .pointer (some ⟨g9,0,none⟩):: .int .i64 (i:Int)::v11:: .slice (some ⟨br,orr,none⟩) q.1.2.2.rels.length cr:: .int .i64 (j:Int):: .pointer (some ⟨g14,0,none⟩):: .int .i64 0:: .pointer (some ⟨g16,0,none⟩)::v17::v18::v19::v20::v21::v22::v23::v24::R4)), []⟩ w3:=by
   intro t a v17 v18 R4 w3 h4 hb3 hE3 heb;have J3:=J.move hb3;rw[heb]at hec hcc;obtain⟨cur,hN3⟩:=Jlc J3.tab;refine Jrw (e:=⟨r.off,r.type,r.add,t,a⟩) (h4) (J3.fr.heap S.box (by decide)) (hE3) (hN3) (by omega) (J3.cell hx hsl 10 _ rfl) (J3.row) (by omega) ((J3.fr.size)) ?_;intro R5 g3 cap3 w5 h5 ho5 hf5 hG5 hN5;exact hQ _ _ _ _ _ R5 _ _ _ h5 (J3.step hx hec hcc ho5 (hf5 _ _ _ J3.fr (Af _)) hN3 hN5)
  rw[Jn0];refine wp_seq (wp_seq (Jrt (P:=P) (h3) (hP2) ?_));intro R4 h4 h128;refine Ba ?_;by_cases hsec:0 < P.sec
  ·refine wp_cond_true ((Ex R4 _ _ _ _ _ _ _ _ _ _ _ _ _ _ _ _ _ _ _ _ _ _ _ _ _ 103).trans (h128.trans (by simp[hsec]))) ?_;have hin:=Jgv (D:=dropsOf l) hplx;obtain⟨t,a,hta⟩:∃t a,Qk (nodesOf l (dropsOf l) (Cl l)) P=(t,a):=⟨_,_,rfl⟩
   have hlen:(nodesOf l (dropsOf l) (Cl l)).length=(Bs l (dropsOf l)).length:=by rw[Ix,List.length_map]
   have hIn:=Jg8 (some ⟨gn,0,none⟩) cn (nodesOf l (dropsOf l) (Cl l)) P w2 (J2.enc S hq hx hxe) (by rw[hlen];exact Zy C.sg C.ok C.lc) (Jbm C.sg) hplx.1;rw[hta,hlen]at hIn;rw[Jnb];refine wp_seq (Jsd (P:=P) (t:=t) (a:=a) (h4) (hP2) (hIn) ?_);intro R5 w3 h5 hb3;refine Ba ?_;have hb03:=hb02.trans (hb3.mono hb02.size);rw[Jog];refine wp_seq (wp_seq (Jrm (h5) ?_));intro R6 h6 h136;refine Ba ?_;cases hfb:findB l (dropsOf l) P with
   |none=>
    rw[hfb,hta]at hin;cases hin;refine wp_cond_true ((Ex R6 _ _ _ _ _ _ _ _ _ _ _ _ _ _ _ _ _ _ _ _ _ _ _ _ _ 111).trans h136) ?_;have heb:Fz l (dropsOf l) q.1.1 r=(eZ,6):=by
     unfold Fz;rw[hwb];simp only;rw[if_neg (by simp),if_neg (by omega),hfb]
    rw[heb]at hcc;have herr:=Jji hq S.err J.err hcc (by decide);refine wp_seq (Jrg (h6) (Cr (hbw.trans (hb03.mono hbw.size)) C.zero) ?_);intro R7 w7 h7 hz hf7;refine Ba (wp_ret (hE _ _ rfl rfl ?_ ?_ hz ((hbw.trans (hb03.mono hbw.size)).mono (Ar hg4) |>.trans (hf7.below (Ar (Ac.1 (Cr (hbw.trans (hb03.mono hbw.size)) C.zero)).1)))))
    ·rw[herr];rfl
    ·rw[herr]
     decide
   |some ta=>
    rw[hfb,hta]at hin;cases hin;have ht0:0≤t:=Jdb hfb;have hnt:¬t < 0:=by omega
    refine wp_cond_false ((Ex R6 _ _ _ _ _ _ _ _ _ _ _ _ _ _ _ _ _ _ _ _ _ _ _ _ _ 111).trans (h136.trans (by simp[hnt]))) (wp_skip (Ba ?_));rw[Jmg];refine wp_seq (Jsb (t:=t) (h6) (Cr hb3 hE16) ?_);intro R7 w7 h7 hE7 hf7;refine Ba ?_;refine Jrf (t:=a) (h7) (hE7) ?_;intro R8 w8 h8 hE8 hf8;refine Ba ?_;have hg16':w.heap.size≤g16:=by have:=hb1.size;omega
    have hgl7:g16≤w7.heap.size:=Ar (Ac.1 hE7).1;have hgl3:g16≤w3.heap.size:=Ar (Ac.1 (Cr hb3 hE16)).1;have hb08:Below w.heap.size w w8:=hb03.trans (((hf7.below hgl3).mono hg16').trans ((hf8.below hgl7).mono hg16'));refine key t a _ _ R8 w8 h8 hb08 hE8 ?_;unfold Fz;rw[hwb];simp only;rw[if_neg (by simp),if_neg (by omega),hfb]
  ·refine wp_cond_false ((Ex R4 _ _ _ _ _ _ _ _ _ _ _ _ _ _ _ _ _ _ _ _ _ _ _ _ _ 103).trans (h128.trans (by simp[hsec]))) (wp_skip (Ba ?_));refine key (-1) P.at_ _ _ R4 w2 h4 hb02 hE16 ?_;unfold Fz;rw[hwb];simp only;rw[if_neg (by simp),if_pos (by omega)]
 ·refine wp_cond_true ((Ex R2 _ _ _ _ _ _ _ _ _ _ _ _ _ _ _ _ _ _ _ _ _ _ _ _ _ 80).trans (h105.trans (by simp[hcd]))) ?_;have heb:(Fz l (dropsOf l) q.1.1 r).2=code:=by
   unfold Fz;rw[hwb];simp only;rw[if_pos hcd]
  rw[heb]at hcc;have herr:=Jji hq S.err J.err hcc hcd;refine wp_seq (Jsa (n:=code) (h2) (Cr (hbw.trans (hb1.mono hbw.size)) C.zero) ?_);intro R7 w7 h7 hz hf7;refine Ba (wp_ret (hE _ _ rfl rfl ?_ ?_ hz ((hbw.trans (hb1.mono hbw.size)).mono (Ar hg4) |>.trans (hf7.below (Ar (Ac.1 (Cr (hbw.trans (hb1.mono hbw.size)) C.zero)).1)))))
  ·rw[herr];rfl
  ·rw[herr];exact hcd
theorem bt9{w4:World}{l:List Az}{defs:List Bb}{p q0 q1:Option Addr}{c g4 g6 c0 c1 g9 gn cn i:Nat}(C:BdC w4 l defs p q0 q1 g4 g6 c0 c1){wi:World}{ns:List Bp}(S:BdS w4 l g9 (some ⟨gn,0,none⟩) cn i wi ns){q:Px}(hq:(Bs l (dropsOf l))[i]?=some q)
 {Q:Exit→Act→World→Prop}{v1 v2 v3 v5 v7 v11 v12 v13 v14 v15 v16 v17 v18 v19 v20 v21 v22 v23 v24:Value}{R:List Value}(hRl:R.length=198)
 (hQ:∀(v11 v12 v13 v14 v15 v16 v17 v18:Value)(R':List Value)(w':World)(ns':List Bp),R'.length=198→BdS w4 l g9 (some ⟨gn,0,none⟩) cn (i+1) w' ns'→Q .normal ⟨(List.toArray (.slice p l.length c::v1::v2::v3:: .pointer (some ⟨g4,0,none⟩)::v5:: .pointer (some ⟨g6,0,none⟩)::v7:: .slice (some ⟨gn,0,none⟩) (Bs l (dropsOf l)).length cn:: .pointer (some ⟨g9,0,none⟩):: .int .i64 (i:Int)::v11::v12::v13::v14::v15::v16::v17::v18::v19::v20::v21::v22::v23::v24::R')), []⟩ w')
 (hX:∀(v11 v12 v13 v14 v15 v16 v17 v18:Value)(R':List Value)(w':World)(ns':List Bp),R'.length=198→BdS w4 l g9 (some ⟨gn,0,none⟩) cn (i+1) w' ns'→Q (.exit 1) ⟨(List.toArray (.slice p l.length c::v1::v2::v3:: .pointer (some ⟨g4,0,none⟩)::v5:: .pointer (some ⟨g6,0,none⟩)::v7:: .slice (some ⟨gn,0,none⟩) (Bs l (dropsOf l)).length cn:: .pointer (some ⟨g9,0,none⟩):: .int .i64 (i:Int)::v11::v12::v13::v14::v15::v16::v17::v18::v19::v20::v21::v22::v23::v24::R')), []⟩ w')
 (hE:∀(a:Act)(w':World),a.defers= []→a.tmps.getD 4 undef= .pointer (some ⟨g4,0,none⟩)→a.tmps.getD 5 undef= .int .i64 (Hf l (dropsOf l))→Hf l (dropsOf l)≠0→w'.heap[g4]?=some (.cells zG 77 (0,0))→Below g4 w4 w'→Q .ret a w'):
 (Bt 9).wp Tryz.prog Q ⟨(List.toArray (.slice p l.length c::v1::v2::v3:: .pointer (some ⟨g4,0,none⟩)::v5:: .pointer (some ⟨g6,0,none⟩)::v7:: .slice (some ⟨gn,0,none⟩) (Bs l (dropsOf l)).length cn:: .pointer (some ⟨g9,0,none⟩):: .int .i64 (i:Int)::v11::v12::v13::v14::v15::v16::v17::v18::v19::v20::v21::v22::v23::v24::R)), []⟩ wi:=by
 obtain⟨x,hx,hxv,hxe⟩:=S.node hq;have hsl:=S.len;have hlc:=C.lc;have hil:=(Ab.1 hq).1;obtain⟨o,ho1,ho2,_⟩:=Jeq (Ad hq);have hol:=(Ab.1 ho1).1;have hkl:=(Ab.1 ho2).1;have J0:=S.begin hx hxv hxe;have n0:wi.cell? ⟨gn,i*14,none⟩=some (.int .i64 (q.1.1:Int)):=J0.cell hx hsl 0 _ (by unfold Bp.put;rw[hxe];rfl);have n1:wi.cell? ⟨gn,i*14+1,none⟩=some (.int .i64 ((q.1.2.1:Int)+1)):=J0.cell hx hsl 1 _ (by unfold Bp.put;rw[hxe];rfl);obtain⟨bo,oo,o',hpo,ho',u0,_,_,_,O0,_,_,_,_,hparts⟩:=C.objs.at_ hol;obtain rfl:o'=o:=by rw[ho1]at ho';cases ho';rfl
 obtain⟨ps,cs,rfl,q1',q2',q3',hsh⟩:=hparts.1;obtain⟨bs,os,s',hps,hs',⟨S0,_⟩,⟨S1,_⟩,⟨S2,hfb⟩,⟨S3,_⟩,⟨S4,_⟩,⟨S5,_⟩,⟨S6,_⟩,⟨u7,S7,hQD⟩,⟨u8,S8,hQR⟩⟩:=hsh.at_ hkl;obtain rfl:s'=q.1.2.2:=by rw[ho2]at hs';cases hs';rfl
 obtain⟨qd,cq,rfl,hD1,hD2,hD3,hDh⟩:=hQD;obtain⟨qr,cr,rfl,hR1,hR2,hR3,hRh⟩:=hQR;subst hpo hps;rw[Jqm];refine wp_seq (bdrg9 (s:=q.1.2.2) (hRl) (by omega) (by rw[Nat.zero_add];exact n0) (by rw[Nat.zero_add];exact n1) (by omega) (Ax S.below O0) (by omega) (by omega) (Ax S.below S0) (Ax S.below S1) (Ax S.below S2) (Ax S.below S3) (Ax S.below S4) (Ax S.below S5) (Ax S.below S6) (Ax S.below S7) (Ax S.below S8) (hfb) ?_);intro R1 w1 h1 hb1;refine Ba ?_;have S1':=S.move hb1;have n0':=Ax hb1 n0;have n1':=Ax hb1 n1;rw[Jnn];refine wp_seq (wp_seq (Jr6 (h1) ?_));intro R2 h2 h63;refine Ba ?_;cases hm:hasF q.1.2.2.flags 16 with
 |true=>
  refine wp_cond_true ((Ex R2 _ _ _ _ _ _ _ _ _ _ _ _ _ _ _ _ _ _ _ _ _ _ _ _ _ 38).trans (h63.trans (by rw[hm]))) (wp_exit ?_);exact hX _ _ _ _ _ _ _ _ R2 w1 ns h2 (S.skip hq (by unfold Mk;rw[hm];rfl) hb1)
 |false=>
  refine wp_cond_false ((Ex R2 _ _ _ _ _ _ _ _ _ _ _ _ _ _ _ _ _ _ _ _ _ _ _ _ _ 38).trans (h63.trans (by rw[hm]))) (wp_skip (Ba ?_));rw[Jl0];refine wp_seq (Jrx (s:=q.1.2.2) (h2) (by omega) (by rw[Nat.zero_add];exact n0') (by rw[Nat.zero_add];exact n1') (by omega) (Ax S1'.below O0) (by omega) (by omega) (Ax S1'.below S8) ?_);intro R3 nq h3;refine Ba ?_;have S2':=S1'.move (Bq (Ag _ w1) nq);generalize w1.drewN nq=w2 at*;have J2:=S2'.begin hx hxv hxe;have hel:(Da l (dropsOf l) q.1).length=q.1.2.2.rels.length:=by
   unfold Da Mk;rw[hm,List.length_map];rfl
  rw[Jmq];refine wp_seq (Jsc (h3) ?_);intro R4 h4;refine Ba (wp_block (wp_loop (fun act w'=>∃(j:Nat)(v14 v15 v16 v17 v18:Value)(R':List Value)(pe:Option Addr)(ce:Nat),act=⟨(List.toArray (.slice (some ⟨bo,oo,none⟩) l.length c::v1::v2::v3:: .pointer (some ⟨g4,0,none⟩)::v5:: .pointer (some ⟨g6,0,none⟩)::v7:: .slice (some ⟨gn,0,none⟩) (Bs l (dropsOf l)).length cn:: .pointer (some ⟨g9,0,none⟩):: .int .i64 (i:Int):: .bool false:: .slice qr q.1.2.2.rels.length cr:: .int .i64 (j:Int)::v14::v15::v16::v17::v18::v19::v20::v21::v22::v23::v24::R')), []⟩∧R'.length=198∧j≤q.1.2.2.rels.length∧BdJ w4 w2 l (some ⟨gn,0,none⟩) cn i ns x q j w' pe ce) (fun act _=>q.1.2.2.rels.length - (intOf (act.eval (.tmp 13))).toNat) ⟨0,_,_,_,_,_,R4,none,0,rfl,h4,Ak _,J2⟩ ?_));rintro act w' ⟨j,v14,v15,v16,v17,v18,R,pe,ce,rfl,hRl,hj,J⟩;rw[Jl1];refine wp_seq (wp_seq (Jsn (hRl) ?_));intro R5 h5 h85;refine Ba ?_;by_cases hlt:j < q.1.2.2.rels.length
  ·refine wp_cond_true ((Ex R5 _ _ _ _ _ _ _ _ _ _ _ _ _ _ _ _ _ _ _ _ _ _ _ _ _ 60).trans (h85.trans (by simp[hlt]))) (wp_skip (Ba ?_));refine wp_seq (wp_block (bt15 C S2' hq hx hxe J hm hRh hlt (h5) ?_ (fun a w'' e1 e2 e3 e4 e5 e6=>hE a w'' e1 e2 e3 e4 e5 e6)));intro v14 v15 v16 v17 v18 R6 w3 pe' ce' h6 J6;refine Ou (Ba ?_);refine Jsu (h6) (Al _ (by unfold maxLen at*;omega)) ?_;intro R7 h7;refine Ba ⟨⟨j+1,_,_,_,_,_,R7,pe',ce',rfl,h7,hlt,J6⟩,?_⟩;show q.1.2.2.rels.length - ((j:Int)+1).toNat < q.1.2.2.rels.length - (j:Int).toNat;omega
  ·refine wp_cond_false ((Ex R5 _ _ _ _ _ _ _ _ _ _ _ _ _ _ _ _ _ _ _ _ _ _ _ _ _ 60).trans (h85.trans (by simp[hlt]))) (wp_exit ?_);exact hQ _ _ _ _ _ _ _ _ R5 w' _ h5 (J.finish C S2' hq hx hxe (by omega))
theorem BdS.enc{w4:World}{l:List Az}{g9 cn i:Nat}{pn:Option Addr}{wi:World}{ns:List Bp}(S:BdS w4 l g9 pn cn i wi ns){w:World}(ht:w.ownsRow w4.heap.size 86 14 (.slice pn (Bs l (dropsOf l)).length cn) (Bs l (dropsOf l)).length (ns.flatMap Bp.cells)):Bg 14 ENC w pn (nodesOf l (dropsOf l) (Cl l)):=by
 rcases ht.2 with⟨_,h0⟩|⟨g,cap,cur,hv,_⟩
 ·have:nodesOf l (dropsOf l) (Cl l)= []:=by rw[Ix,List.length_eq_zero_iff.1 h0];rfl
  rw[this];exact fun i y hy=>by simp at hy
 ·cases hv;refine Jkv ht S.len fun j y hy=>?_;rw[Ix,List.getElem?_map]at hy;cases hq':(Bs l (dropsOf l))[j]? with
  |none=>rw[hq']at hy;cases hy
  |some q'=>
   rw[hq']at hy;cases hy;have hm:=congrArg (fun z=>z[j]?) S.map;simp only[List.getElem?_map]at hm;rw[Jcb hq']at hm;cases hv:ns[j]? with
   |none=>rw[hv]at hm;simp at hm
   |some v=>
    rw[hv]at hm;simp only[Option.map_some,Option.some.injEq]at hm;obtain⟨o1,o2,_⟩:=S.ok v (Ad hv);obtain⟨pd,cd,hd,_⟩:=Bl o1;obtain⟨p2,ce2,he2,_⟩:=Bl o2;refine⟨v,rfl,?_⟩;rw[hm]at hd he2⊢;exact⟨rfl,rfl,rfl,rfl,rfl,rfl,rfl,rfl,rfl,rfl,rfl,rfl,⟨pd,_,cd,hd⟩,⟨p2,_,ce2,he2⟩⟩
structure BdN(w4 w7:World)(l:List Az)(defs:List Bb)(en:ByteArray)(g9:Nat)(pn:Option Addr)(cn k:Nat)(w:World)(fd:Bool)(T A:Int)(pm:Option Addr)(cm:Nat):Prop where
 fr:FrT w4.heap.size [96,77] w7 w
 box:w.heap[g9]?=some (.cells #[.slice pn (Bs l (dropsOf l)).length cn,.int .i64 T,.int .i64 A,.slice pm (namesB l (dropsOf l) (defs.take k)).length cm] 77 (0,0))
 row:w.ownsRow w7.heap.size 96 3 (.slice pm (namesB l (dropsOf l) (defs.take k)).length cm) (namesB l (dropsOf l) (defs.take k)).length ((namesB l (dropsOf l) (defs.take k)).flatMap nmC)
 fnd:fd=false∧T=0∧A=0∧(∀x∈namesB l (dropsOf l) (defs.take k),sEq x.name en=false)∨fd=true∧∃x∈namesB l (dropsOf l) (defs.take k),sEq x.name en=true∧T=x.to_∧A=x.at_
theorem BdN.move{w4 w7:World}{l:List Az}{defs:List Bb}{en:ByteArray}{g9 cn k cm:Nat}{pn pm:Option Addr}{w w':World}{fd:Bool}{T A:Int}(N:BdN w4 w7 l defs en g9 pn cn k w fd T A pm cm)(hb:Below w.heap.size w w'):BdN w4 w7 l defs en g9 pn cn k w' fd T A pm cm:=by
 have hf:FrT w4.heap.size [] w w':=FrT.of_below hb;exact⟨N.fr.trans (hf.mono (by simp)),hf.heap N.box (by simp),hf.owns N.row (by simp),N.fnd⟩
theorem BdN.same{w4 w7:World}{l:List Az}{defs:List Bb}{en:ByteArray}{g9 cn k cm:Nat}{pn pm:Option Addr}{w:World}{fd:Bool}{T A:Int}(N:BdN w4 w7 l defs en g9 pn cn k w fd T A pm cm)(he:namesB l (dropsOf l) (defs.take (k+1))=namesB l (dropsOf l) (defs.take k)):BdN w4 w7 l defs en g9 pn cn (k+1) w fd T A pm cm:=
 ⟨N.fr,by rw[he];exact N.box,by rw[he];exact N.row,by rw[he];exact N.fnd⟩
theorem Jip{l:List Az}{D:List (List Bool)}{defs:List Bb}{k:Nat}{d:Bb}(h:defs[k]?=some d):namesB l D (defs.take (k+1))=namesB l D (defs.take k)++(Ih l D d).toList:=by
 unfold namesB;rw[Hm h,List.filterMap_append];cases hg:Ih l D d<;>simp[hg]
theorem FrT.lower{N M:Nat}{Ts:List TypeId}{w w':World}(h:FrT M Ts w w')(hl:N≤M):FrT N Ts w w':=
 ⟨h.os,h.tape,h.output,h.size,fun k o hk ht=>h.block k o hk (ht.imp (fun hk=>Nat.lt_of_lt_of_le hk hl) id)⟩
theorem bt30{w4:World}{l:List Az}{defs:List Bb}{p q0 q1 pn:Option Addr}{c g4 g6 c0 c1 g9 cn:Nat}(C:BdC w4 l defs p q0 q1 g4 g6 c0 c1){w7:World}{ns:List Bp}(S:BdS w4 l g9 pn cn (Bs l (dropsOf l)).length w7 ns){en:ByteArray}{j cm:Nat}{w:World}{fd:Bool}{T A:Int}{pm:Option Addr}(N:BdN w4 w7 l defs en g9 pn cn j w fd T A pm cm)(hj:j < defs.length)
 {Q:Exit→Act→World→Prop}{v2 v3 v5 v7 v10 v11 v12 v13 v14 v15 v16 v17 v18 v21 v22 v23 v24:Value}{R:List Value}(hRl:R.length=198)
 (hQ:∀(v21 v22 v23 v24:Value)(R':List Value)(w':World)(fd':Bool)(T' A':Int)(pm':Option Addr)(cm':Nat),R'.length=198→BdN w4 w7 l defs en g9 pn cn (j+1) w' fd' T' A' pm' cm'→Q .normal ⟨(List.toArray (.slice p l.length c:: .string en::v2::v3:: .pointer (some ⟨g4,0,none⟩)::v5:: .pointer (some ⟨g6,0,none⟩)::v7:: .slice pn (Bs l (dropsOf l)).length cn:: .pointer (some ⟨g9,0,none⟩)::v10::v11::v12::v13::v14::v15::v16::v17::v18:: .bool fd':: .int .i64 (j:Int)::v21::v22::v23::v24::R')), []⟩ w')
 (hX:∀(v21 v22 v23 v24:Value)(R':List Value)(w':World)(fd':Bool)(T' A':Int)(pm':Option Addr)(cm':Nat),R'.length=198→BdN w4 w7 l defs en g9 pn cn (j+1) w' fd' T' A' pm' cm'→Q (.exit 5) ⟨(List.toArray (.slice p l.length c:: .string en::v2::v3:: .pointer (some ⟨g4,0,none⟩)::v5:: .pointer (some ⟨g6,0,none⟩)::v7:: .slice pn (Bs l (dropsOf l)).length cn:: .pointer (some ⟨g9,0,none⟩)::v10::v11::v12::v13::v14::v15::v16::v17::v18:: .bool fd':: .int .i64 (j:Int)::v21::v22::v23::v24::R')), []⟩ w'):
 (Bt 30).wp Tryz.prog Q ⟨(List.toArray (.slice p l.length c:: .string en::v2::v3:: .pointer (some ⟨g4,0,none⟩)::v5:: .pointer (some ⟨g6,0,none⟩)::v7:: .slice pn (Bs l (dropsOf l)).length cn:: .pointer (some ⟨g9,0,none⟩)::v10::v11::v12::v13::v14::v15::v16::v17::v18:: .bool fd:: .int .i64 (j:Int)::v21::v22::v23::v24::R)), []⟩ w:=by
 have hs:=S.below.size;have hbw:Below w4.heap.size w4 w:=S.below.trans (N.fr.below hs);have hlc:=C.lc;have hfew:=C.tabok.few;obtain⟨bf,of_,d,hpq,hd,d0,d1,d2⟩:=C.dfs.at_ hj;subst hpq;have hdb:=Jgw C.lc C.ok C.tabok d (Ad hd);have hpl:=Le (D:=dropsOf l) (o:=(d.obj:Int)) (s:=(d.sym:Int)) C.ok (Ns C.objs);have hg9:=S.hg9;have hnl:(namesB l (dropsOf l) (defs.take j)).length≤1000000:=by
  unfold namesB;have h1:=List.length_filterMap_le (Ih l (dropsOf l)) (defs.take j);have h2:=List.length_take_le j defs;omega
 have HC:∀W,Below w.heap.size w W→Calls Tryz.prog 26 #[.slice p l.length c,.agg #[.slice q0 (dropsOf l).length c0,.slice (some ⟨bf,of_,none⟩) defs.length c1],.int .i64 (d.obj:Int),.int .i64 (d.sym:Int)] W (Kx (Ck l (dropsOf l) d.obj d.sym) W):=fun W hW=>by
  have hb:=hbw.trans (hW.mono hbw.size);exact Sf p q0 c c0 d.obj d.sym _ l (dropsOf l) W (C.objs.below Cg.keeps hb) C.ok (by omega) (C.drop.below hb) (by unfold Bn;omega) (by unfold Bn;omega)
 have hgn:Ih l (dropsOf l) d=if(Ck l (dropsOf l) d.obj d.sym).2≠0 then none else(findB l (dropsOf l) (Ck l (dropsOf l) d.obj d.sym).1).map fun t=>⟨d.name,t.1,t.2⟩:=rfl
 obtain⟨P,code,hwb⟩:∃P code,Ck l (dropsOf l) d.obj d.sym=(P,code):=⟨_,_,rfl⟩
 rw[hwb]at HC hpl hgn;simp only at hgn;have hplx:Kw l P:=hpl;rw[Jmc];refine wp_seq (Jso (P:=P) (code:=code) (ob:=d.obj) (sy:=d.sym) (hRl) (Cr hbw C.tab) (by omega) (Ax hbw d1) (Ax hbw d2) (HC) ?_);intro R1 g21 w1 h1 hP hb1;refine Ba ?_;have N1:=N.move hb1;have hin:=Jgv (D:=dropsOf l) hplx;obtain⟨t,a,hta⟩:∃t a,Qk (nodesOf l (dropsOf l) (Cl l)) P=(t,a):=⟨_,_,rfl⟩
 have hlen:(nodesOf l (dropsOf l) (Cl l)).length=(Bs l (dropsOf l)).length:=by rw[Ix,List.length_map]
 have hIn:=Jg8 pn cn (nodesOf l (dropsOf l) (Cl l)) P w1 (S.enc (N1.fr.owns S.tab (by decide))) (by rw[hlen];exact Zy C.sg C.ok C.lc) (Jbm C.sg) hplx.1;rw[hta,hlen]at hIn;rw[Jma];refine wp_seq (Jsk (P:=P) (t:=t) (a:=a) (h1) (hP) (hIn) ?_);intro R2 w2 h2 hb2;refine Ba ?_;have N2:=N1.move hb2;rw[Jnz];refine wp_seq (wp_seq (Jry (h2) ?_));intro R3 h3 h192;refine Ba ?_;have hstep:=Jip (l:=l) (D:=dropsOf l) hd;by_cases hcd:code=0
 ·subst hcd;rw[if_neg (by simp)]at hgn;cases hfb:findB l (dropsOf l) P with
  |none=>
   rw[hfb,hta]at hin;cases hin;rw[hfb]at hgn;refine wp_cond_true ((Ex R3 _ _ _ _ _ _ _ _ _ _ _ _ _ _ _ _ _ _ _ _ _ _ _ _ _ 167).trans h192) (wp_exit ?_);exact hX _ _ _ _ R3 w2 _ _ _ _ _ h3 (N2.same (by rw[hstep,hgn];simp))
  |some ta=>
   rw[hfb,hta]at hin;cases hin;rw[hfb]at hgn;have ht0:0≤t:=Jdb hfb;have hnt:¬t < 0:=by omega
   refine wp_cond_false ((Ex R3 _ _ _ _ _ _ _ _ _ _ _ _ _ _ _ _ _ _ _ _ _ _ _ _ _ 167).trans (h192.trans (by simp[hnt]))) (wp_skip (Ba ?_));have hgn:Ih l (dropsOf l) d=some ⟨d.name,t,a⟩:=hgn;rw[hgn]at hstep;have hstep:namesB l (dropsOf l) (defs.take (j+1))=namesB l (dropsOf l) (defs.take j)++ [⟨d.name,t,a⟩]:=hstep;have hbw2:Below w4.heap.size w4 w2:=S.below.trans (N2.fr.below hs);rw[Jna];refine wp_seq (Jrp (nm:=d.name) (M:=w7.heap.size) (ms:=namesB l (dropsOf l) (defs.take j)) (h3) (N2.box) (Cr hbw2 C.tab) (Ax hbw2 d0) (by omega) (N2.row) (hnl) (N2.fr.size) ?_);intro R4 g3 cap3 w3 h4 ho3 hf3 hG3;refine Ba ?_;have hset:FrT w4.heap.size [77] w3 (w3.setCell ⟨g9,3,none⟩ (.slice (some ⟨g3,0,none⟩) ((namesB l (dropsOf l) (defs.take j)).length+1) cap3)):=FrT.set hG3 (by simp) hg9 _;have hbox:=An w3 g9 3 _ _ (.slice (some ⟨g3,0,none⟩) ((namesB l (dropsOf l) (defs.take j)).length+1) cap3) hG3;have hf03:FrT w4.heap.size [96,77] w7 w3:=by
    have hlow:FrT w4.heap.size [96] w2 w3:=hf3.lower hs;exact N2.fr.trans (hlow.mono (by simp))
   have hrow:=hset.owns ho3 (by decide);have hf04:=hf03.trans (hset.mono (by simp));have hlen1:(namesB l (dropsOf l) (defs.take (j+1))).length=(namesB l (dropsOf l) (defs.take j)).length+1:=by rw[hstep];simp
   generalize w3.setCell ⟨g9,3,none⟩ (.slice (some ⟨g3,0,none⟩) ((namesB l (dropsOf l) (defs.take j)).length+1) cap3)=w4' at*;have hbw4:Below w4.heap.size w4 w4':=S.below.trans (hf04.below hs);have hbox:w4'.heap[g9]?=some (.cells #[.slice pn (Bs l (dropsOf l)).length cn,.int .i64 T,.int .i64 A,.slice (some ⟨g3,0,none⟩) (namesB l (dropsOf l) (defs.take (j+1))).length cap3] 77 (0,0)):=by
    rw[hlen1];exact hbox
   have hrow:w4'.ownsRow w7.heap.size 96 3 (.slice (some ⟨g3,0,none⟩) (namesB l (dropsOf l) (defs.take (j+1))).length cap3) (namesB l (dropsOf l) (defs.take (j+1))).length ((namesB l (dropsOf l) (defs.take (j+1))).flatMap nmC):=by
    rw[hlen1,hstep];exact hrow
   rw[Jmh];refine wp_seq (Jq7 (nm:=d.name) (h4) (Cr hbw4 C.tab) (Ax hbw4 d0) (by omega) ?_);intro R5 h5 h214;refine Ba ?_;cases heq:sEq d.name en with
   |false=>
    refine wp_cond_false ((Ex R5 _ _ _ _ _ _ _ _ _ _ _ _ _ _ _ _ _ _ _ _ _ _ _ _ _ 189).trans (h214.trans (by rw[heq]))) (wp_skip ?_);refine hQ _ _ _ _ R5 w4' fd T A _ _ h5 ⟨hf04,hbox,hrow,?_⟩;rw[hstep];rcases N.fnd with⟨f1,f2,f3,f4⟩|⟨f1,x,f2,f3⟩
    ·refine .inl ⟨f1,f2,f3,fun x hx=>?_⟩;rcases List.mem_append.1 hx with hx|hx
     ·exact f4 x hx
     ·obtain rfl:=List.mem_singleton.1 hx;exact heq
    ·exact .inr ⟨f1,x,List.mem_append_left _ f2,f3⟩
   |true=>
    refine wp_cond_true ((Ex R5 _ _ _ _ _ _ _ _ _ _ _ _ _ _ _ _ _ _ _ _ _ _ _ _ _ 189).trans (h214.trans (by rw[heq]))) ?_;rw[Joj];refine wp_seq (Jst (t:=t) (h5) (hbox) ?_);intro R6 w6 h6 hG6 hf6;refine Ba ?_;rw[Jok];refine wp_seq (Jrn (t:=a) (h6) (hG6) ?_);intro R7 w8 h7 hG8 hf8;refine Ba ?_;refine Jrk (h7) ?_;intro R8 h8;have hf48:FrT w4.heap.size [77] w4' w8:=(hf6.lower hg9).trans (hf8.lower hg9);refine hQ _ _ _ _ R8 w8 true t a _ _ h8 ⟨hf04.trans (hf48.mono (by simp)),hG8,hf48.owns hrow (by decide),.inr ⟨rfl,⟨d.name,t,a⟩,?_,heq,rfl,rfl⟩⟩;rw[hstep];simp
 ·rw[if_pos hcd]at hgn;refine wp_cond_true ((Ex R3 _ _ _ _ _ _ _ _ _ _ _ _ _ _ _ _ _ _ _ _ _ _ _ _ _ 167).trans (h192.trans (by simp[hcd]))) (wp_exit ?_);exact hX _ _ _ _ R3 w2 _ _ _ _ _ h3 (N2.same (by rw[hstep,hgn];simp))
theorem Jo8{Q:Exit→Act→World→Prop}{id:Nat}{a:Act}{w:World}(h:Q .normal a w):Exit.inBlock id Q (.exit id) a w:=by
 show(if id=id then Q .normal a w else Q (.exit id) a w);rw[if_pos rfl];exact h
theorem Jli{ns:List NmD}{en:ByteArray}(hs:ns.Pairwise fun a b=>sLt a.name b.name=true){x:NmD}(hx:x∈ns)(he:sEq x.name en=true):ns.find? (fun n=>sEq n.name en)=some x:=by
 induction ns with
 |nil=>cases hx
 |cons y ys ih=>
  obtain⟨h1,h2⟩:=List.pairwise_cons.1 hs;rw[List.find?_cons];rcases List.mem_cons.1 hx with rfl|hx
  ·rw[he]
  ·cases hy:sEq y.name en with
   |true=>
    have e1:=Df.1 hy;have e2:=Df.1 he;have h3:=h1 x hx;rw[e1,e2,Gw]at h3;cases h3
   |false=>exact ih h2 hx
theorem bt26{w4:World}{l:List Az}{defs:List Bb}{p q0 q1 pn:Option Addr}{c g4 g6 c0 c1 g9 cn:Nat}(C:BdC w4 l defs p q0 q1 g4 g6 c0 c1){w7:World}{ns:List Bp}(S:BdS w4 l g9 pn cn (Bs l (dropsOf l)).length w7 ns){en:ByteArray}{Q:Exit→Act→World→Prop}{v2 v3 v5 v7 v10 v11 v12 v13 v14 v15 v16 v17 v18 v19 v20 v21 v22 v23 v24:Value}{R:List Value}(hRl:R.length=198)
 (hF:∀(a:Act)(w':World)(cs:Array Value),a.defers= []→a.tmps.getD 4 undef= .pointer (some ⟨g4,0,none⟩)→a.tmps.getD 5 undef= .int .i64 (Ha l (dropsOf l) defs en).2→w'.heap[g4]?=some (.cells cs 77 (0,0))→Gr w' cs (Ha l (dropsOf l) defs en).1→Below g4 w4 w'→Q .ret a w'):
 (Bt 26).wp Tryz.prog Q ⟨(List.toArray (.slice p l.length c:: .string en::v2::v3:: .pointer (some ⟨g4,0,none⟩)::v5:: .pointer (some ⟨g6,0,none⟩)::v7:: .slice pn (Bs l (dropsOf l)).length cn:: .pointer (some ⟨g9,0,none⟩)::v10::v11::v12::v13::v14::v15::v16::v17::v18::v19::v20::v21::v22::v23::v24::R)), []⟩ w7:=by
 have hs:=S.below.size;have hg4:g4 < w4.heap.size:=(Ac.1 C.zero).1;have hfew:=C.tabok.few;have herr:Hf l (dropsOf l)=0:=Jol l (dropsOf l) S.err;have hgr0:(namesB l (dropsOf l) defs).find? (fun n=>sEq n.name en)=none→Ha l (dropsOf l) defs en=(none,5):=fun h=>by
  unfold Ha;rw[if_neg (by omega),h]
 have hgr1:∀x,(namesB l (dropsOf l) defs).find? (fun n=>sEq n.name en)=some x→Ha l (dropsOf l) defs en=(some ⟨nodesOf l (dropsOf l) (Cl l),x.to_,x.at_,namesB l (dropsOf l) defs⟩,0):=fun x h=>by
  unfold Ha;rw[if_neg (by omega),h]
 have hsorted:(namesB l (dropsOf l) defs).Pairwise fun a b=>sLt a.name b.name=true:=Jeg C.tabok.sorted;have hnbd:=Jlo C.objs C.sg C.ok (by have:=C.lc;omega) C.tabok;rw[Joa];refine wp_seq (Jr7 (hRl) ?_);intro R1 h1;refine Ba ?_;rw[Jm7];refine wp_seq (wp_seq (Jq9 (h1) ?_));intro R2 h2;have N0:BdN w4 w7 l defs en g9 pn cn 0 w7 false 0 0 none 0:=⟨FrT.refl _ _ _,S.box,Aq _ _ _ _,.inl ⟨rfl,rfl,rfl,fun x hx=>by simp[namesB]at hx⟩⟩
 refine Ba (wp_block (wp_loop (fun act w'=>∃(j:Nat)(v21 v22 v23 v24:Value)(R':List Value)(fd:Bool)(T A:Int)(pm:Option Addr)(cm:Nat),act=⟨(List.toArray (.slice p l.length c:: .string en::v2::v3:: .pointer (some ⟨g4,0,none⟩)::v5:: .pointer (some ⟨g6,0,none⟩)::v7:: .slice pn (Bs l (dropsOf l)).length cn:: .pointer (some ⟨g9,0,none⟩)::v10::v11::v12::v13::v14::v15::v16::v17::v18:: .bool fd:: .int .i64 (j:Int)::v21::v22::v23::v24::R')), []⟩∧R'.length=198∧j≤defs.length∧BdN w4 w7 l defs en g9 pn cn j w' fd T A pm cm) (fun act _=>defs.length - (intOf (act.eval (.tmp 20))).toNat) ⟨0,_,_,_,_,R2,false,0,0,none,0,rfl,h2,Ak _,N0⟩ ?_));rintro act w ⟨j,v21,v22,v23,v24,R,fd,T,A,pm,cm,rfl,hRl,hj,N⟩;have hbw:Below w4.heap.size w4 w:=S.below.trans (N.fr.below hs);rw[Jnp];refine wp_seq (wp_seq (Jrv (hRl) (Cr hbw C.tab) ?_));intro R3 h3 h160;refine Ba ?_;by_cases hlt:j < defs.length
 ·refine wp_cond_true ((Ex R3 _ _ _ _ _ _ _ _ _ _ _ _ _ _ _ _ _ _ _ _ _ _ _ _ _ 135).trans (h160.trans (by simp[hlt]))) (wp_skip (Ba ?_));have hnext:∀(v21 v22 v23 v24:Value)(R':List Value)(w':World)(fd':Bool)(T' A':Int)(pm':Option Addr)(cm':Nat),R'.length=198→BdN w4 w7 l defs en g9 pn cn (j+1) w' fd' T' A' pm' cm'→(Br 29).wp Tryz.prog (Exit.then (fun act w'=>(∃(j:Nat)(v21 v22 v23 v24:Value)(R':List Value)(fd:Bool)(T A:Int)(pm:Option Addr)(cm:Nat),act=⟨(List.toArray (.slice p l.length c:: .string en::v2::v3:: .pointer (some ⟨g4,0,none⟩)::v5:: .pointer (some ⟨g6,0,none⟩)::v7:: .slice pn (Bs l (dropsOf l)).length cn:: .pointer (some ⟨g9,0,none⟩)::v10::v11::v12::v13::v14::v15::v16::v17::v18:: .bool fd:: .int .i64 (j:Int)::v21::v22::v23::v24::R')), []⟩∧R'.length=198∧j≤defs.length∧BdN w4 w7 l defs en g9 pn cn j w' fd T A pm cm)∧defs.length - (intOf (act.eval (.tmp 20))).toNat < defs.length - (intOf ((⟨(List.toArray (.slice p l.length c:: .string en::v2::v3:: .pointer (some ⟨g4,0,none⟩)::v5:: .pointer (some ⟨g6,0,none⟩)::v7:: .slice pn (Bs l (dropsOf l)).length cn:: .pointer (some ⟨g9,0,none⟩)::v10::v11::v12::v13::v14::v15::v16::v17::v18:: .bool fd:: .int .i64 (j:Int)::v21::v22::v23::v24::R)), []⟩:Act).eval (.tmp 20))).toNat) (Exit.inBlock 4 (Exit.then (Code.wp Tryz.prog (Bt 38) Q) Q))) ⟨(List.toArray (.slice p l.length c:: .string en::v2::v3:: .pointer (some ⟨g4,0,none⟩)::v5:: .pointer (some ⟨g6,0,none⟩)::v7:: .slice pn (Bs l (dropsOf l)).length cn:: .pointer (some ⟨g9,0,none⟩)::v10::v11::v12::v13::v14::v15::v16::v17::v18:: .bool fd':: .int .i64 (j:Int)::v21::v22::v23::v24::R')), []⟩ w':=by
   intro v21 v22 v23 v24 R4 w' fd' T' A' pm' cm' h4 N4;refine Jr4 (h4) (Al _ (by omega)) ?_;intro R5 h5;refine Ba ⟨⟨j+1,_,_,_,_,R5,fd',T',A',pm',cm',rfl,h5,hlt,N4⟩,?_⟩;show defs.length - ((j:Int)+1).toNat < defs.length - (j:Int).toNat;omega
  refine wp_seq (wp_block (bt30 C S N hlt (h3) ?_ ?_))
  ·intro v21 v22 v23 v24 R4 w' fd' T' A' pm' cm' h4 N4;exact hnext v21 v22 v23 v24 R4 w' fd' T' A' pm' cm' h4 N4
  ·intro v21 v22 v23 v24 R4 w' fd' T' A' pm' cm' h4 N4;exact hnext v21 v22 v23 v24 R4 w' fd' T' A' pm' cm' h4 N4
 ·refine wp_cond_false ((Ex R3 _ _ _ _ _ _ _ _ _ _ _ _ _ _ _ _ _ _ _ _ _ _ _ _ _ 135).trans (h160.trans (by simp[hlt]))) (wp_exit ?_);show(Bt 38).wp _ _ _ _;obtain rfl:j=defs.length:=by omega
  have hN:=N.box;have hrow:=N.row;have hfnd:=N.fnd;rw[List.take_length]at hN hrow hfnd;rw[Jm8];refine wp_seq (wp_seq (Jsf (h3) ?_));intro R4 h4 h220;refine Ba ?_;have hz:=Cr hbw C.zero;have hb4:Below g4 w4 w:=hbw.mono (Ar hg4);have hg4l:g4≤w.heap.size:=Ar (Ac.1 hz).1;rcases hfnd with⟨rfl,rfl,rfl,hno⟩|⟨rfl,x,hx,hxe,rfl,rfl⟩
  ·refine wp_cond_true ((Ex R4 _ _ _ _ _ _ _ _ _ _ _ _ _ _ _ _ _ _ _ _ _ _ _ _ _ 195).trans h220) ?_;have hf:(namesB l (dropsOf l) defs).find? (fun n=>sEq n.name en)=none:=List.find?_eq_none.2 fun y hy=>by simp[hno y hy]
   have hgr:=hgr0 hf;refine wp_seq (Jrq (h4) (hz) ?_);intro R5 w5 h5 hz5 hf5;exact Ba (wp_ret (hF _ _ _ rfl rfl (by rw[hgr];rfl) hz5 (by rw[hgr];rfl) (hb4.trans (hf5.below hg4l))))
  ·refine wp_cond_false ((Ex R4 _ _ _ _ _ _ _ _ _ _ _ _ _ _ _ _ _ _ _ _ _ _ _ _ _ 195).trans h220) (wp_skip (Ba ?_));have hgr:=hgr1 _ (Jli hsorted hx hxe);rw[Jm9];refine wp_seq (Jro (h4) (hz) (hN) ?_);intro R5 w5 h5 hz5 hf5;have hlen:(Bs l (dropsOf l)).length=(nodesOf l (dropsOf l) (Cl l)).length:=by rw[Ix,List.length_map]
   have hnode:IsL 14 Jg w5 (.slice pn (Bs l (dropsOf l)).length cn) (nodesOf l (dropsOf l) (Cl l)):=by
    have ht:=hf5.owns (N.fr.owns S.tab (by decide)) (by decide);rw[←S.len]at ht;have:=Jay ht fun y hy=>((S.ok y hy).fr N.fr (by decide) (by decide)).fr hf5 (by decide) (by decide);rw[S.map,Jru,S.len]at this;exact this
   have hnm:=Jaa (hf5.owns hrow (by decide)) hnbd;exact Ba (wp_ret (hF _ _ _ rfl rfl (by rw[hgr];rfl) hz5 (by rw[hgr];exact⟨_,_,rfl,hnode,hnm⟩) (hb4.trans (hf5.below hg4l))))
theorem bt6{w4:World}{l:List Az}{defs:List Bb}{p q0 q1 pn:Option Addr}{c g4 g6 c0 c1 g9 cn:Nat}(C:BdC w4 l defs p q0 q1 g4 g6 c0 c1){w5:World}{ns:List Bp}(S:BdS w4 l g9 pn cn 0 w5 ns){en:ByteArray}{Q:Exit→Act→World→Prop}{v2 v3 v5 v7 v10 v11 v12 v13 v14 v15 v16 v17 v18 v19 v20 v21 v22 v23 v24:Value}{R:List Value}(hRl:R.length=198)
 (hF:∀(a:Act)(w':World)(cs:Array Value),a.defers= []→a.tmps.getD 4 undef= .pointer (some ⟨g4,0,none⟩)→a.tmps.getD 5 undef= .int .i64 (Ha l (dropsOf l) defs en).2→w'.heap[g4]?=some (.cells cs 77 (0,0))→Gr w' cs (Ha l (dropsOf l) defs en).1→Below g4 w4 w'→Q .ret a w'):
 (Bt 6).wp Tryz.prog Q ⟨(List.toArray (.slice p l.length c:: .string en::v2::v3:: .pointer (some ⟨g4,0,none⟩)::v5:: .pointer (some ⟨g6,0,none⟩)::v7:: .slice pn (Bs l (dropsOf l)).length cn:: .pointer (some ⟨g9,0,none⟩)::v10::v11::v12::v13::v14::v15::v16::v17::v18::v19::v20::v21::v22::v23::v24::R)), []⟩ w5:=by
 have hE:∀(a:Act)(w':World),a.defers= []→a.tmps.getD 4 undef= .pointer (some ⟨g4,0,none⟩)→a.tmps.getD 5 undef= .int .i64 (Hf l (dropsOf l))→Hf l (dropsOf l)≠0→w'.heap[g4]?=some (.cells zG 77 (0,0))→Below g4 w4 w'→Q .ret a w':=fun a w' e1 e2 e3 e4 e5 e6=>by
  have hg:Ha l (dropsOf l) defs en=(none,Hf l (dropsOf l)):=by unfold Ha;rw[if_pos e4]
  exact hF a w' zG e1 e2 (by rw[hg];exact e3) e5 (by rw[hg];rfl) e6
 have hfew:=Zy (D:=dropsOf l) C.sg C.ok C.lc;rw[Jo3];refine wp_seq (wp_seq (bdrg6 (hRl) ?_));intro R1 h1;refine Ba (wp_block (wp_loop (fun act w'=>∃(i:Nat)(v11 v12 v13 v14 v15 v16 v17 v18:Value)(R':List Value)(ns:List Bp),act=⟨(List.toArray (.slice p l.length c:: .string en::v2::v3:: .pointer (some ⟨g4,0,none⟩)::v5:: .pointer (some ⟨g6,0,none⟩)::v7:: .slice pn (Bs l (dropsOf l)).length cn:: .pointer (some ⟨g9,0,none⟩):: .int .i64 (i:Int)::v11::v12::v13::v14::v15::v16::v17::v18::v19::v20::v21::v22::v23::v24::R')), []⟩∧R'.length=198∧i≤(Bs l (dropsOf l)).length∧BdS w4 l g9 pn cn i w' ns) (fun act _=>(Bs l (dropsOf l)).length - (intOf (act.eval (.tmp 10))).toNat) ⟨0,_,_,_,_,_,_,_,_,R1,ns,rfl,h1,Ak _,S⟩ ?_));rintro act w ⟨i,v11,v12,v13,v14,v15,v16,v17,v18,R,ns',rfl,hRl,hi,S'⟩;rw[Jqd];refine wp_seq (wp_seq (bdrg7 (hRl) ?_));intro R2 h2 h42;refine Ba ?_;by_cases hlt:i < (Bs l (dropsOf l)).length
 ·refine wp_cond_true ((Ex R2 _ _ _ _ _ _ _ _ _ _ _ _ _ _ _ _ _ _ _ _ _ _ _ _ _ 17).trans (h42.trans (by simp[hlt]))) (wp_skip (Ba ?_));obtain⟨q,hq⟩:∃q,(Bs l (dropsOf l))[i]?=some q:=⟨_,Ae hlt⟩
  obtain⟨gn,rfl⟩:∃gn,pn=some ⟨gn,0,none⟩:=by
   rcases S'.tab.2 with⟨_,h0⟩|⟨g,cap,cur,hv,_⟩
   ·omega
   ·cases hv;exact⟨g,rfl⟩
  refine wp_seq (wp_block (bt9 C S' hq (h2) ?_ ?_ (fun a w'' e1 e2 e3 e4 e5 e6=>hE a w'' e1 e2 e3 e4 e5 e6)))
  ·intro v11 v12 v13 v14 v15 v16 v17 v18 R4 w' ns4 h4 S4;refine Ou (Ba ?_);refine Joq (h4) (Al _ (by omega)) ?_;intro R5 h5;refine Ba ⟨⟨i+1,_,_,_,_,_,_,_,_,R5,ns4,rfl,h5,hlt,S4⟩,?_⟩;show(Bs l (dropsOf l)).length - ((i:Int)+1).toNat < (Bs l (dropsOf l)).length - (i:Int).toNat;omega
  ·intro v11 v12 v13 v14 v15 v16 v17 v18 R4 w' ns4 h4 S4;refine Jo8 (Ba ?_);refine Joq (h4) (Al _ (by omega)) ?_;intro R5 h5;refine Ba ⟨⟨i+1,_,_,_,_,_,_,_,_,R5,ns4,rfl,h5,hlt,S4⟩,?_⟩;show(Bs l (dropsOf l)).length - ((i:Int)+1).toNat < (Bs l (dropsOf l)).length - (i:Int).toNat;omega
 ·refine wp_cond_false ((Ex R2 _ _ _ _ _ _ _ _ _ _ _ _ _ _ _ _ _ _ _ _ _ _ _ _ _ 17).trans (h42.trans (by simp[hlt]))) (wp_exit ?_);obtain rfl:i=(Bs l (dropsOf l)).length:=by omega
  exact bt26 C S' (h2) (hF)
theorem Jlj{s:Ca}(h:kindS s=true):(s.type=1∧s.size=(s.data.length:Int)∧s.data.length≤16384∨s.type=8∧s.data.length=0)∧(hasF s.flags 16=true→s.rels= []):=by
 unfold kindS kindB at h;obtain⟨h1,h⟩:=El h;obtain⟨h2,h⟩:=El h;obtain⟨h3,h⟩:=El h;obtain⟨h4,h⟩:=El h;have hty:s.type=1∨s.type=8:=by simp at h4;omega
 refine⟨?_,fun hm=>?_⟩
 ·rcases hty with e|e
  ·left;simp[e]at h2;exact⟨e,by omega,by omega⟩
  ·right;simp[e]at h3;obtain⟨⟨⟨⟨x1,_⟩,_⟩,_⟩,_⟩:=h3;exact⟨e,by rw[x1];rfl⟩
 ·rw[hm]at h
  have h':(bif hasF s.flags 1 || hasF s.flags 4 || decide (0 < (s.rels.length:Int))then false else
   bif hasF s.flags 32 then(s.ent==1)&&(s.align==1)&&(((s.data.length:Int)==0) || (s.data.getLast?==some 0))else
   (s.ent==4 || s.ent==8 || s.ent==16)&&decide (s.align≤s.ent)&&(s.size.tmod s.ent==0))=true:=h
  obtain⟨h5,_⟩:=El h';simp only[Bool.or_eq_false_iff,decide_eq_false_iff_not]at h5;exact List.eq_nil_of_length_eq_zero (by omega)
theorem Jcv{w:World}{p:Option Addr}{l:List Az}(h:Bg 5 Cg w p l)(hm:∀o∈l,mayO o=true):Gi l:=fun o ho s hs=>by
 obtain⟨i,hi⟩:=Av ho;obtain⟨k,hk⟩:=Av hs;have h1:=hm o ho;unfold mayO shapeB at h1;simp only[Bool.and_eq_true]at h1;have hsec:=Gx h1.1.1.1.2 hk;unfold secOK at hsec;obtain⟨h2,_⟩:=El hsec;simp only[Bool.or_eq_false_iff,Bool.not_eq_false']at h2;obtain⟨⟨_,hkind⟩,hrels⟩:=h2;obtain⟨h3,h4⟩:=Jlj hkind;unfold relsB at hrels;simp only[Bool.and_eq_true,decide_eq_true_eq]at hrels;obtain⟨b,off,v0,v1,v2,v4,_,_,_,_,_,_,hp⟩:=h i o hi;obtain⟨p0,c0,_,_,_,_,hq⟩:=hp.1;obtain⟨b2,off2,_,_,_,e2,_,e4,_,e6,_,_⟩:=hq k s hk;refine⟨Jiu hkind,⟨e2.2,e4.2,e6.2⟩,?_,?_,h4,by omega⟩
 ·rcases h3 with h|h
  ·exact .inl ⟨h.1,h.2.1⟩
  ·exact .inr h
 ·rcases h3 with h|h
  ·exact h.2.2
  ·rw[h.2];omega
end Go.Proofs.YteopgmieindojaaGreat
