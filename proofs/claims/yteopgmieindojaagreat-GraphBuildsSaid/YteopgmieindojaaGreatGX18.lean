/- Parts of a proof. -/
import Derived.Test.YteopgmieindojaaGreatGX13
import Derived.Test.YteopgmieindojaaGreatGX17
import Derived.Test.YteopgmieindojaaGreatGX08
import Derived.Deep.AppendLies
import Derived.Laws.Tables
set_option maxRecDepth 1000000
set_option maxHeartbeats 8000000
namespace Go.Proofs.YteopgmieindojaaGreat
open Go.RowKit
theorem Je7(p:Option Addr)(q1 q2:Option Addr)(c m1 d1 m2 d2 g0:Nat)(l:List Az)(D:List (List Bool))(vs:List Value)(w0 w:World)(h:Bg 5 Cg w0 p l)(hok:∀o∈l,OkD o)(hlc:l.length≤1000)(hb0:Below w0.heap.size w0 w)(hm:Dr w0.heap.size w g0 vs l (Em l D 0 0 []) l.length):
 Calls Tryz.prog 113 #[.agg #[.slice p l.length c,.slice q1 m1 d1,.slice q2 m2 d2,Dt g0 l.length]] w fun e w'=>e= .returned (.tuple #[])∧Dr w0.heap.size w' g0 vs l (Em l D l.length 0 []) l.length∧FrT w0.heap.size [211] w w':=by
 have ha:Below w.heap.size w (w.alloc (.cells #[.slice p l.length c,.slice q1 m1 d1,.slice q2 m2 d2,Dt g0 l.length] 154)):=(Ag _ w).alloc (Af _) _;have hB:=Ah w (.cells #[.slice p l.length c,.slice q1 m1 d1,.slice q2 m2 d2,Dt g0 l.length] 154);have HM1:=Aa (hm.below ha);have HB1:=Aa (hb0.trans (ha.mono hb0.size));have HF1:Hid (FrT w0.heap.size [211] w (w.alloc (.cells #[.slice p l.length c,.slice q1 m1 d1,.slice q2 m2 d2,Dt g0 l.length] 154))):=Aa (FrT.of_below ha);have HH:=Aa h;have HOK:=Aa hok;have hgN:w0.heap.size≤w.heap.size:=hb0.size;generalize hN:w0.heap.size=N at*;have HN:=Aa hN;generalize hln:l.length=ln at*;have HLN:=Aa hln;generalize hgB:w.heap.size=gB at*;have HGB:=Aa hgB;clear h hok hb0 hm ha hN hln hgB;go_enter Tryz.func113,Tryz.ntmps113;go_upto_region 1 with fail
 generalize w.alloc (.cells #[.slice p ln c,.slice q1 m1 d1,.slice q2 m2 d2,Dt g0 ln] 154)=w1 at*;rw[HGB.out];obtain⟨y0,y1,y2,y3⟩:w1.cell? ⟨gB,0,none⟩=some (.slice p ln c)∧w1.cell? ⟨gB,1,none⟩=some (.slice q1 m1 d1)∧w1.cell? ⟨gB,2,none⟩=some (.slice q2 m2 d2)∧w1.cell? ⟨gB,3,none⟩=some (.slice (some ⟨g0,0,none⟩) ln ln):=by
  refine⟨?_,?_,?_,?_⟩
  all_goals exact(Am w1 gB _ _ _ (0,0) hB).trans rfl
 go_wp2_with fail
 go_loopw [2,12,3,4,6,8] (fun r2 r12 _ _ _ _ wr=>∃i:Nat,r12= .int .i64 (i:Int)∧i≤ln∧r2= .int .i64 ((Bc Az.groups l i).length:Int)∧Dr N wr g0 vs l (Em l D i 0 []) ln∧wr.heap[gB]?=some (.cells #[.slice p ln c,.slice q1 m1 d1,.slice q2 m2 d2,Dt g0 ln] 154 (0,0))∧FrT N [211] w wr∧Below N w0 wr) (fun _ r12 _ _ _ _ _=>ln - (intOf r12).toNat)
 case atStart=>exact⟨0,rfl,Ak _,rfl,HM1.out,hB,HF1.out,HB1.out⟩
 case round=>
  obtain⟨i,rfl,hi,rfl,hm,hBr,hf,hb⟩:=hrel;clear hB y0 y1 y2 y3 HM1 HF1 HB1;by_cases hlt:i < ln
  ·obtain⟨o,ho⟩:∃o,l[i]?=some o:=⟨_,Ae (by rw[HLN.out];exact hlt)⟩
   obtain⟨b0,hv⟩:=hm.blk hlt ho;have r0:=hm.cell ho hv;have HO:=Aa ho;have HV:=Aa hv;have hoo:=HOK.out o (Ad ho);have HOO:=Aa hoo;have hql:=hoo.few.1;have hgl:=hoo.few.2.2.1;obtain⟨b,off,p0,p1,p2,p4,c0,c1,c2,c4,hpe,_,_,e2',_,_,_,_,hgr,_⟩:=Du HH.out ho;subst hpe;have e2:=Ax (by rw[HN.out];exact hb) e2';have HGRP:=Aa hgr;obtain⟨G,hG⟩:∃G,G=(Bc Az.groups l i).length:=⟨_,rfl⟩
   have hGle:G≤1000*100000:=by
    rw[hG];exact Aw (Ok (fun x hx=>(HOK.out x hx).few.2.2.1) i) (Nat.mul_le_mul_right _ (by omega))
   have HG:=Aa hG;have HGN1:=Aa (Jfr ho);rw[←hG]at HGN1⊢;obtain⟨ql,hqn⟩:∃ql,ql=o.secs.length:=⟨_,rfl⟩
   have HQN:=Aa hqn;rw[←hqn]at hql r0;obtain⟨gn,hgn⟩:∃gn,gn=o.groups.length:=⟨_,rfl⟩
   have HGN:=Aa hgn;rw[←hgn]at hgl e2 HGN1;obtain⟨y0,y1,y2,y3⟩:wr.cell? ⟨gB,0,none⟩=some (.slice (some ⟨b,off,none⟩) ln c)∧wr.cell? ⟨gB,1,none⟩=some (.slice q1 m1 d1)∧wr.cell? ⟨gB,2,none⟩=some (.slice q2 m2 d2)∧wr.cell? ⟨gB,3,none⟩=some (.slice (some ⟨g0,0,none⟩) ln ln):=by
    refine⟨?_,?_,?_,?_⟩
    all_goals exact(Am wr gB _ _ _ (0,0) hBr).trans rfl
   have j1:(i:Int) < (ln:Int):=by omega
   have j0:(0:Int)≤(i:Int):=by omega
   have HM:=Aa hm;have HBR:=Aa hBr;have HFR:=Aa hf;have HBW:=Aa hb;clear ho hv hoo hqn hgn hgr hG e2' hm hBr hf hb;generalize hwo:wr=wo at*;clear hwo;go_wp2_with fail
   go_loopw [2,24,6,8] (fun r2 r24 _ _ wq=>∃k:Nat,r24= .int .i64 (k:Int)∧k≤gn∧r2= .int .i64 ((G:Int)+(k:Int))∧Dr N wq g0 vs l (Em l D i k []) ln∧wq.heap[gB]?=some (.cells #[.slice (some ⟨b,off,none⟩) ln c,.slice q1 m1 d1,.slice q2 m2 d2,Dt g0 ln] 154 (0,0))∧FrT N [211] w wq∧Below N w0 wq) (fun _ r24 _ _ _=>gn - (intOf r24).toNat)
   case atStart=>exact⟨0,rfl,Ak _,by go_num,HM.out,HBR.out,HFR.out,HBW.out⟩
   case round=>
    obtain⟨k,rfl,hk,rfl,hm,hBr,hf,hb⟩:=hrel;clear y0 y1 y2 y3 e2 r0;have HMS:=Aa hm;clear hm;by_cases hlt2:k < gn
    ·obtain⟨b2,off2,g,hpe2,hg,⟨hE0',_⟩,v2,hcv2',q5,c5,rfl,_,_,_,hml⟩:=HGRP.out.at_ (i:=k) (by rw[←HGN.out];exact hlt2);subst hpe2;have hbW:Below w0.heap.size w0 wr:=by rw[HN.out];exact hb
     have hE0:=Ax hbW hE0';have hcv2:=Ax hbW hcv2';have HGG:=Aa hg;have hgm:=Ad hg;have HMEM:=Aa (HOO.out.mem g hgm);have hfew:=HOO.out.few.2.2.2.2 g hgm;have HML:=Aa (show Bg 1 Cc w0 q5 g.members from hml);obtain⟨mn,hmn⟩:∃mn,mn=g.members.length:=⟨_,rfl⟩
     have HMN:=Aa hmn;rw[←hmn]at hfew hcv2;obtain⟨gs,hgs⟩:∃gs,gs=g.sym:=⟨_,rfl⟩
     rw[←hgs]at hE0;have hgr:gB < wr.heap.size:=(Ac.1 hBr).1;have hNr:N≤wr.heap.size:=by omega
     have hN2:=Ah wr (.cells #[.int .i64 gs,.slice q5 mn c5] 100);have hb2:Below wr.heap.size wr (wr.alloc (.cells #[.int .i64 gs,.slice q5 mn c5] 100)):=(Ag _ wr).alloc (Af _) _;have j4:(k:Int) < (gn:Int):=by omega
     have j5:(0:Int)≤(k:Int):=by omega
     have kw:IntKind.i64.wrap ((G:Int)+(k:Int)+1)=(G:Int)+(k:Int)+1:=Al _ (by omega);clear hg hgm hmn hml hE0' hcv2' hbW hgs;go_upto_region 8 with fail
     generalize wr.alloc (.cells #[.int .i64 gs,.slice q5 mn c5] 100)=w2 at*;have hm2:=HMS.out.below hb2;have hB2:=(hb2.block gB hgr).trans hBr;have hf2:=hf.trans (FrT.of_below hb2);have hbb:=hb.trans (hb2.mono hNr);have hgs2:wr.heap.size < w2.heap.size:=(Ac.1 hN2).1;generalize wr.heap.size=g2 at*;obtain⟨⟨x0,x1⟩,_⟩:=Bz _ _ _ _ _ hN2;have HM2:=Aa hm2;have HB2:=Aa hB2;have HF2:=Aa hf2;have HBB:=Aa hbb;clear hm2 hB2 hf2 hbb hN2 hb2 hBr hf hb hE0 hcv2;go_wp2_with fail
     generalize hwo:wr=wo2 at*;clear hwo;go_loopw [33,8] (fun r33 _ wx=>∃j:Nat,r33= .int .i64 (j:Int)∧j≤mn∧Dr N wx g0 vs l (Em l D i k (g.members.take j)) ln∧wx.heap[gB]?=some (.cells #[.slice (some ⟨b,off,none⟩) ln c,.slice q1 m1 d1,.slice q2 m2 d2,Dt g0 ln] 154 (0,0))∧FrT N [211] w wx∧Below N w0 wx) (fun r33 _ _=>mn - (intOf r33).toNat)
     case atStart=>exact⟨0,rfl,Ak _,HM2.out,HB2.out,HF2.out,HBB.out⟩
     case round=>
      obtain⟨j,rfl,hj,hm,hBr,hf,hb⟩:=hrel;clear x0 x1;by_cases hjl:j < mn
      ·obtain⟨b5,off5,x,hpe5,hx,hcx⟩:=HML.out.at_ (i:=j) (by rw[←HMN.out];exact hjl);subst hpe5;have hcx0':=hcx.1;rw[Nat.mul_one]at hcx0';have hcx0:=Ax (show Below w0.heap.size w0 wr by rw[HN.out];exact hb) hcx0';obtain⟨m,hmx⟩:∃m:Nat,x=(m:Int)+1:=⟨(x - 1).toNat,by have:=HMEM.out x (Ad hx);omega⟩
       have hml:m < ql:=by have:=HMEM.out x (Ad hx);have:=HQN.out;omega
       subst hmx;obtain⟨s,hs⟩:∃s,o.secs[m]?=some s:=⟨_,Ae (by rw[←HQN.out];exact hml)⟩
       obtain⟨t1,t2,t3,pv,u0,u1,u2,u3,_,_,hset,_⟩:=hm.at_ (k:=m) hlt HO.out HV.out hs (rfl:Em l D i k (g.members.take j) i m s=⟨Ch D (i,m,s),Mm l D i m s,Rj l i k (g.members.take j) i m,false⟩);have t32:=t3 (m*4+2);obtain⟨hS1,hS2⟩:=hset ((G:Int)+(k:Int)+1)
       have hS3:=hS1.congr (g:=Em l D i k (g.members.take (j+1))) (by
        rw[HG.out]
        exact fun i' k' o' s' ho' hs'=>Jd6 (l:=l) (D:=D) (a:=i) (g:=k) (j:=j) hx s i' k' o' s' ho' hs' (fun e=>by
         obtain⟨rfl,rfl⟩:=e;have h1:=HO.out;rw[ho']at h1;cases h1;rw[hs]at hs';cases hs'
         rfl))
       have HS3:=Aa hS3;have HBX:=Aa (hS2.heap hBr (by decide));have HFX:=Aa (hf.trans hS2);have HBBX:=Aa (hb.trans (hS2.below (by have:=(Ac.1 hBr).1;omega)));have m1:(j:Int) < (mn:Int):=by omega
       have m0:(0:Int)≤(j:Int):=by omega
       have m2:IntKind.i64.wrap ((m:Int)+1 - 1)=(m:Int):=by rw[show(m:Int)+1 - 1=(m:Int) by omega];exact Al _ (by omega)
       have m3:(m:Int) < (ql:Int):=by omega
       have m4:(0:Int)≤(m:Int):=by omega
       clear hx hcx hcx0' hs t3 hset hS1 hS2 hS3 hm hBr hf hb;go_wp2_with fail
       go_roundw
       case rel=>exact⟨j+1,by go_num,hjl,HS3.out,HBX.out,HFX.out,HBBX.out⟩
       case measure=>simp[intOf];omega
      ·have hE:g.members.take j=g.members:=List.take_of_length_le (by rw[←HMN.out];omega);rw[hE]at hm;have HMX:=Aa (hm.congr (Jbs HO.out HGG.out));have HBX:=Aa hBr;have m1:¬(j:Int) < (mn:Int):=by omega
       clear hE hm hBr;go_wp2_with fail
       go_roundw
       case rel=>exact⟨k+1,by go_num,hlt2,by go_num,HMX.out,HBX.out,hf,hb⟩
       case measure=>simp[intOf];omega
    ·obtain rfl:k=gn:=by omega
     have HMX:=Aa (HMS.out.congr (Jei HO.out HGN.out));have HGX:Hid ((G:Int)+(k:Int)=((Bc Az.groups l (i+1)).length:Int)):=Aa (by rw[HGN1.out];omega);have HBX:=Aa hBr;have m1:¬(k:Int) < (k:Int):=by omega
     clear hBr;go_wp2_with fail
     go_roundw
     case rel=>exact⟨i+1,by go_num,by omega,by rw[HGX.out],HMX.out,HBX.out,hf,hb⟩
     case measure=>simp[intOf];omega
  ·obtain rfl:i=ln:=by omega
   have HMX:=Aa hm;have m1:¬(i:Int) < (i:Int):=by omega
   clear hm hBr;go_wp2_with fail
   exact bodyPost_end (results_none rfl _ _ _) rfl ⟨rfl,HMX.out,hf⟩
theorem Jj7(p q1 q2:Option Addr)(c m1 d1 m2 d2 g0:Nat)(l:List Az)(D:List (List Bool))(vs:List Value)(w0 w:World)(h:Bg 5 Cg w0 p l)(hok:∀o∈l,OkD o)(hlc:l.length≤1000)(hb0:Below w0.heap.size w0 w)(hm:Dr w0.heap.size w g0 vs l (Fy l D 0 0) l.length)
 (hW:∀W,Below w0.heap.size w0 W→∀(o:Nat)(s:Int),Bn s→o≤1000000→Calls Tryz.prog 25 #[.slice p l.length c,.agg #[.slice q1 m1 d1,.slice q2 m2 d2],.int .i64 (o:Int),.int .i64 s] W (Mq (Ck l D o s) W)):
 Calls Tryz.prog 114 #[.agg #[.slice p l.length c,.slice q1 m1 d1,.slice q2 m2 d2,Dt g0 l.length]] w fun e w'=>e= .returned (.tuple #[])∧Dr w0.heap.size w' g0 vs l (Iu l D) l.length∧FrT w0.heap.size [211] w w':=by
 have ha:Below w.heap.size w (w.alloc (.cells #[.slice p l.length c,.slice q1 m1 d1,.slice q2 m2 d2,Dt g0 l.length] 154)):=(Ag _ w).alloc (Af _) _;have hB:=Ah w (.cells #[.slice p l.length c,.slice q1 m1 d1,.slice q2 m2 d2,Dt g0 l.length] 154);have HM1:=Aa (hm.below ha);have HB1:=Aa (hb0.trans (ha.mono hb0.size));have HF1:Hid (FrT w0.heap.size [211] w (w.alloc (.cells #[.slice p l.length c,.slice q1 m1 d1,.slice q2 m2 d2,Dt g0 l.length] 154))):=Aa (FrT.of_below ha);have HH:=Aa h;have HOK:=Aa hok;have HWH:=Aa hW;have HVB:=Aa (Ns h);have hgN:w0.heap.size≤w.heap.size:=hb0.size;generalize hN:w0.heap.size=N at*;have HN:=Aa hN;generalize hln:l.length=ln at*;have HLN:=Aa hln;generalize hgB:w.heap.size=gB at*;have HGB:=Aa hgB;clear h hok hb0 hm ha hN hln hgB hW;go_enter Tryz.func114,Tryz.ntmps114;go_upto_region 1 with fail
 generalize w.alloc (.cells #[.slice p ln c,.slice q1 m1 d1,.slice q2 m2 d2,Dt g0 ln] 154)=w1 at*;rw[HGB.out];obtain⟨y0,y1,y2,y3⟩:w1.cell? ⟨gB,0,none⟩=some (.slice p ln c)∧w1.cell? ⟨gB,1,none⟩=some (.slice q1 m1 d1)∧w1.cell? ⟨gB,2,none⟩=some (.slice q2 m2 d2)∧w1.cell? ⟨gB,3,none⟩=some (.slice (some ⟨g0,0,none⟩) ln ln):=by
  refine⟨?_,?_,?_,?_⟩
  all_goals exact(Am w1 gB _ _ _ (0,0) hB).trans rfl
 go_wp2_with fail
 go_loopw [10,2,4,5,6] (fun r10 _ _ _ _ wr=>∃i:Nat,r10= .int .i64 (i:Int)∧i≤ln∧Dr N wr g0 vs l (Fy l D i 0) ln∧wr.heap[gB]?=some (.cells #[.slice p ln c,.slice q1 m1 d1,.slice q2 m2 d2,Dt g0 ln] 154 (0,0))∧FrT N [211] w wr∧Below N w0 wr) (fun r10 _ _ _ _ _=>ln - (intOf r10).toNat)
 case atStart=>exact⟨0,rfl,Ak _,HM1.out,hB,HF1.out,HB1.out⟩
 case round=>
  obtain⟨i,rfl,hi,hm,hBr,hf,hb⟩:=hrel;clear hB y0 y1 y2 y3 HM1 HF1 HB1;obtain⟨y0,y1,y2,y3⟩:wr.cell? ⟨gB,0,none⟩=some (.slice p ln c)∧wr.cell? ⟨gB,1,none⟩=some (.slice q1 m1 d1)∧wr.cell? ⟨gB,2,none⟩=some (.slice q2 m2 d2)∧wr.cell? ⟨gB,3,none⟩=some (.slice (some ⟨g0,0,none⟩) ln ln):=by
   refine⟨?_,?_,?_,?_⟩
   all_goals exact(Am wr gB _ _ _ (0,0) hBr).trans rfl
  by_cases hlt:i < ln
  ·obtain⟨o,ho⟩:∃o,l[i]?=some o:=⟨_,Ae (by rw[HLN.out];exact hlt)⟩
   have HO:=Aa ho;have hoo:=HOK.out o (Ad ho);have hsl:=hoo.few.2.2.2.1;obtain⟨b,off,p0,p1,p2,p4,c0,c1,c2,c4,hpe,_,_,_,_,e4',_,_,_,hsig,_⟩:=Du HH.out ho;subst hpe;have e4:=Ax (by rw[HN.out];exact hb) e4';have HSIG:=Aa hsig;obtain⟨sl,hsn⟩:∃sl,sl=o.sig.length:=⟨_,rfl⟩
   have HSN:=Aa hsn;rw[←hsn]at hsl e4;have j1:(i:Int) < (ln:Int):=by omega
   have j0:(0:Int)≤(i:Int):=by omega
   have HM:=Aa hm;have HBR:=Aa hBr;have HFR:=Aa hf;have HBW:=Aa hb;clear ho hoo hsn hsig e4' hm hBr hf hb;generalize hwo:wr=wo at*;clear hwo;go_wp2_with fail
   go_loopw [20,4,5,6] (fun r20 _ _ _ wq=>∃q:Nat,r20= .int .i64 (q:Int)∧q≤sl∧Dr N wq g0 vs l (Fy l D i q) ln∧wq.heap[gB]?=some (.cells #[.slice (some ⟨b,off,none⟩) ln c,.slice q1 m1 d1,.slice q2 m2 d2,Dt g0 ln] 154 (0,0))∧FrT N [211] w wq∧Below N w0 wq) (fun r20 _ _ _ _=>sl - (intOf r20).toNat)
   case atStart=>exact⟨0,rfl,Ak _,HM.out,HBR.out,HFR.out,HBW.out⟩
   case round=>
    obtain⟨q,rfl,hq,hm,hBr,hf,hb⟩:=hrel;clear y0 y1 y2 y3 e4;have HMS:=Aa hm;clear hm;by_cases hlt2:q < sl
    ·obtain⟨b5,off5,x,hpe5,hx,hcx⟩:=HSIG.out.at_ (i:=q) (by rw[←HSN.out];exact hlt2);subst hpe5;have hxb:=hcx.2;have hcx0':=hcx.1;rw[Nat.mul_one]at hcx0';have hcx0:=Ax (show Below w0.heap.size w0 wr by rw[HN.out];exact hb) hcx0';obtain⟨y0,y1,y2,y3⟩:wr.cell? ⟨gB,0,none⟩=some (.slice (some ⟨b,off,none⟩) ln c)∧wr.cell? ⟨gB,1,none⟩=some (.slice q1 m1 d1)∧wr.cell? ⟨gB,2,none⟩=some (.slice q2 m2 d2)∧wr.cell? ⟨gB,3,none⟩=some (.slice (some ⟨g0,0,none⟩) ln ln):=by
      refine⟨?_,?_,?_,?_⟩
      all_goals exact(Am wr gB _ _ _ (0,0) hBr).trans rfl
     have HX:=Aa hx;have hpl:=Le (l:=l) (D:=D) (o:=(i:Int)) (s:=x) HOK.out HVB.out;have hwh:=HWH.out wr hb i x hxb (by omega);have HNO:=Aa (fun hno=>HMS.out.congr (Jkr HO.out hx hno));have HYS:=Aa (fun pi pk at_ s h0 h1=>Jih (l:=l) (D:=D) (a:=i) (q:=q) (pi:=pi) (pk:=pk) (at_:=at_) (s:=s) HO.out hx h0 h1);obtain⟨⟨⟨P0,P1,P2⟩,cd1⟩,hwb⟩:∃P:Cq × Int,Ck l D i x=P:=⟨_,rfl⟩
     rw[hwb]at hpl hwh HNO HYS;have HPL:=Aa hpl;have hgr:gB < wr.heap.size:=(Ac.1 hBr).1;have hNr:N≤wr.heap.size:=by omega
     have k1:(q:Int) < (sl:Int):=by omega
     have k0:(0:Int)≤(q:Int):=by omega
     have HBR:=Aa hBr;have HFR:=Aa hf;have HBW:=Aa hb;clear hx hcx hcx0' hpl hwb hBr hf hb hxb;by_cases hc:cd1=0
     ·subst hc;have HWX:Hid (Calls Tryz.prog 25 #[.slice (some ⟨b,off,none⟩) ln c,.agg #[.slice q1 m1 d1,.slice q2 m2 d2],.int .i64 (i:Int),.int .i64 x] wr fun e w'=>e= .returned (.tuple #[.agg #[.int .i64 P0,.int .i64 P1,.int .i64 P2],.nilIface])∧Below wr.heap.size wr w'):=Aa hwh;clear hwh
      go_upto_region 8 with(first|(go_at_call 25
                                   refine HWX.out.mono ?_
                                   rintro e w5 ⟨rfl,hb5⟩)|fail)
      have hP:=Ah w5 (.cells #[.int .i64 P0,.int .i64 P1,.int .i64 P2] 67);have hb46:Below wr.heap.size wr (w5.alloc (.cells #[.int .i64 P0,.int .i64 P1,.int .i64 P2] 67)):=hb5.alloc hb5.size _;generalize w5.alloc (.cells #[.int .i64 P0,.int .i64 P1,.int .i64 P2] 67)=w6 at*;generalize w5.heap.size=g5 at*;obtain⟨d0,d1',d2'⟩:w6.cell? ⟨g5,0,none⟩=some (.int .i64 P0)∧w6.cell? ⟨g5,1,none⟩=some (.int .i64 P1)∧w6.cell? ⟨g5,2,none⟩=some (.int .i64 P2):=by
       obtain⟨⟨d0,d1,d2⟩,_⟩:=Bj _ _ _ _ _ _ hP;exact⟨d0,d1,d2⟩
      have hm6:=HMS.out.below hb46;have hB6:=(hb46.block gB hgr).trans HBR.out;have hf6:=HFR.out.trans (FrT.of_below hb46);have hb6:=HBW.out.trans (hb46.mono hNr);have HM6:=Aa hm6;have HB6:=Aa hB6;have HF6:=Aa hf6;have HBB6:=Aa hb6;clear y0 y1 y2 y3 hcx0 hb5;rcases HPL.out.2 with hp0|⟨pi,pk,po_,ps_,hpe,hpi,hpk⟩
      ·have hp0':P1=0:=hp0;subst hp0';have HMN:=Aa ((HNO.out (.inr (by show(0:Int) < 1;omega))).below hb46);clear hm6 hB6 hf6 hb6 hb46 hP;go_wp2_with fail
       go_roundw
       case rel=>exact⟨q+1,by go_num,hlt2,HMN.out,HB6.out,HF6.out,HBB6.out⟩
       case measure=>simp[intOf];omega
      ·obtain⟨rfl,rfl⟩:P0=(pi:Int)∧P1=(pk:Int)+1:=by
        simp only[Cq.mk.injEq]at hpe;exact⟨hpe.1,hpe.2.1⟩
       have hpl:pi < ln:=by have:=(Ab.1 hpi).1;have:=HLN.out;omega
       obtain⟨b0,hv⟩:=hm6.blk hpl hpi;have r0:=hm6.cell hpi hv;obtain⟨t1,t2,t3,pv,u0,u1,u2,u3,_,_,_,hset,_⟩:=hm6.at_ (k:=pk) hpl hpi hv hpk (rfl:Fy l D i q pi pk ps_=⟨Ch D (pi,pk,ps_),Mm l D pi pk ps_,Gm l pi ((pk:Int)+1),(Bo Az.sig l i q).any (Gk l D pi ((pk:Int)+1))⟩);have t33:=t3 (pk*4+3);obtain⟨hS1,hS2⟩:=hset true
       have hS3:=hS1.congr (g:=Fy l D i (q+1)) (fun i' k' o' s' ho' hs'=>HYS.out pi pk P2 ps_ (by trivial) (by first|rfl|trivial) i' k' o' s' ho' hs' (fun e=>by
        obtain⟨rfl,rfl⟩:=e;have h1:=hpi;rw[ho']at h1;cases h1;rw[hpk]at hs';cases hs'
        rfl))
       have HS3:=Aa hS3;have HBX:=Aa (hS2.heap hB6 (by decide));have HFX:=Aa (hf6.trans hS2);have HBBX:=Aa (hb6.trans (hS2.below (by have:=(Ac.1 hB6).1;omega)));have hkl:=(Ab.1 hpk).1;have hkb:=(HOK.out po_ (Ad hpi)).few.1;obtain⟨ql,hqn⟩:∃ql,ql=po_.secs.length:=⟨_,rfl⟩
       rw[←hqn]at hkl hkb r0;obtain⟨y0,y1,y2,y3⟩:w6.cell? ⟨gB,0,none⟩=some (.slice (some ⟨b,off,none⟩) ln c)∧w6.cell? ⟨gB,1,none⟩=some (.slice q1 m1 d1)∧w6.cell? ⟨gB,2,none⟩=some (.slice q2 m2 d2)∧w6.cell? ⟨gB,3,none⟩=some (.slice (some ⟨g0,0,none⟩) ln ln):=by
        refine⟨?_,?_,?_,?_⟩
        all_goals exact(Am w6 gB _ _ _ (0,0) hB6).trans rfl
       have n1:(pi:Int) < (ln:Int):=by omega
       have n0:(0:Int)≤(pi:Int):=by omega
       have n2:IntKind.i64.wrap ((pk:Int)+1 - 1)=(pk:Int):=by rw[show(pk:Int)+1 - 1=(pk:Int) by omega];exact Al _ (by omega)
       have n3:(pk:Int) < (ql:Int):=by omega
       have n4:(0:Int)≤(pk:Int):=by omega
       have n5:(0:Int) < (pk:Int)+1:=by omega
       have n6:IntKind.i64.wrap (pk:Int)=(pk:Int):=Al _ (by omega);have n7:¬(ql:Int)≤(pk:Int):=by omega
       have n8:¬(pk:Int) < 0:=by omega
       clear hpe hpi hpk hv t3 hset hS1 hS2 hS3 hm6 hB6 hf6 hb6 hb46 hP hqn;go_upto_region 9 with fail
       go_still_tail 11,(by kernel_rfl)
       go_wp2_with fail
       go_roundw
       case rel=>exact⟨q+1,by go_num,hlt2,HS3.out.below (Ag _ _).drew,HBX.out,HFX.out.trans (FrT.of_below (Ag _ _).drew),HBBX.out.drew⟩
       case measure=>simp[intOf];omega
     ·have HWX:Hid (Calls Tryz.prog 25 #[.slice (some ⟨b,off,none⟩) ln c,.agg #[.slice q1 m1 d1,.slice q2 m2 d2],.int .i64 (i:Int),.int .i64 x] wr fun e w'=>e= .returned (.tuple #[.agg #[.int .i64 P0,.int .i64 P1,.int .i64 P2],.iface 36 (.int .i64 cd1)])∧Below wr.heap.size wr w'):=Aa (hwh.mono fun e w' ⟨h1,h2⟩=>⟨by rw[h1];unfold Fk;rw[if_neg hc],h2⟩);clear hwh
      go_upto_region 8 with(first|(go_at_call 25
                                   refine HWX.out.mono ?_
                                   rintro e w5 ⟨rfl,hb5⟩)|fail)
      have hb46:Below wr.heap.size wr (w5.alloc (.cells #[.int .i64 P0,.int .i64 P1,.int .i64 P2] 67)):=hb5.alloc hb5.size _;generalize w5.alloc (.cells #[.int .i64 P0,.int .i64 P1,.int .i64 P2] 67)=w6 at*;generalize w5.heap.size=g5 at*;have HB6:=Aa ((hb46.block gB hgr).trans HBR.out);have HF6:=Aa (HFR.out.trans (FrT.of_below hb46));have HBB6:=Aa (HBW.out.trans (hb46.mono hNr));have HMN:=Aa ((HNO.out (.inl hc)).below hb46);clear hb46 hb5 y0 y1 y2 y3 hcx0 hc;go_wp2_with fail
      go_roundw
      case rel=>exact⟨q+1,by go_num,hlt2,HMN.out,HB6.out,HF6.out,HBB6.out⟩
      case measure=>simp[intOf];omega
    ·obtain rfl:q=sl:=by omega
     have HMX:=HMS.out;rw[Jfb HO.out (by rw[←HSN.out];exact Af _)]at HMX;have HMX:=Aa HMX;have HBX:=Aa hBr;have k1:¬(q:Int) < (q:Int):=by omega
     clear hBr;go_wp2_with fail
     go_roundw
     case rel=>exact⟨i+1,by go_num,by omega,HMX.out,HBX.out,hf,hb⟩
     case measure=>simp[intOf];omega
  ·obtain rfl:i=ln:=by omega
   have HMX:=hm;rw[show i=l.length from HLN.out.symm,Jiv]at HMX;have HMX:Hid (Dr N wr g0 vs l (Iu l D) i):=Aa (by rw[←HLN.out];exact HMX);have k1:¬(i:Int) < (i:Int):=by omega
   clear hm hBr;go_wp2_with fail
   exact bodyPost_end (results_none rfl _ _ _) rfl ⟨rfl,HMX.out,hf⟩
theorem Tryz.infoSect:(Tryz.prog.info? 211).map (fun i=>(i.zero,i.size,i.bytes))=some (some (.agg #[.slice none 0 0,.int .i64 0,.int .i64 0,.bool false]),4,48):=by kernel_rfl
theorem Tryz.infoSects:(Tryz.prog.info? 208).map (fun i=>(i.zero,i.size,i.bytes))=some (some (.slice none 0 0),1,24):=by kernel_rfl
theorem Jim(n:Nat):(madeCells #[.slice none 0 0,.int .i64 0,.int .i64 0,.bool false] (n*4)).toList=(List.replicate n (Fu.mk ⟨[],0,0,false⟩ (.slice none 0 0))).flatMap Fu.cells:=by
 apply List.ext_getElem?;intro t;have hm4:t % 4 < 4:=Nat.mod_lt _ (by omega);by_cases ht:t < n*4
 ·obtain⟨q,hq⟩:∃q,(Fu.mk ⟨[],0,0,false⟩ (.slice none 0 0)).cells[t % 4]?=some q:=⟨_,Ae (show t % 4 < 4 from hm4)⟩
  have e1:=Ks (k:=4) (f:=Fu.cells) (fun _=>rfl) (List.replicate n (Fu.mk ⟨[],0,0,false⟩ (.slice none 0 0))) (t / 4) _ (t % 4) q (by rw[List.getElem?_replicate,if_pos (by omega)]) hq;rw[show t / 4*4+t % 4=t by omega]at e1;rw[e1];simp only[madeCells,Array.toList_map,List.getElem?_map,Array.toList_range,List.getElem?_range ht,Option.map_some];have:∀m,m < 4→∀q,(Fu.mk ⟨[],0,0,false⟩ (.slice none 0 0)).cells[m]?=some q→some ((#[Value.slice none 0 0,.int .i64 0,.int .i64 0,.bool false]:Array Value)[m]!)=some q:=fun m hm q hq=>by
   match m,hm with
   |0,_=>cases hq;rfl
   |1,_=>cases hq;rfl
   |2,_=>cases hq;rfl
   |3,_=>cases hq;rfl
  exact this (t % 4) hm4 q hq
 ·rw[List.getElem?_eq_none (by rw[Array.length_toList,size_madeCells];omega),List.getElem?_eq_none (by rw[Qb (k:=4) (fun _=>rfl),List.length_replicate];omega)]
theorem Dr.start{N g0:Nat}{w:World}{vs:List Value}{l:List Az}{f:Lf}(h:w.ownsRow N 208 1 (Dt g0 l.length) l.length vs):Dr N w g0 vs l f 0:=
 ⟨h,fun _ _ hi _=>absurd hi (Nat.not_lt_zero _),fun _ _ _ _ _ _ hi=>absurd hi (Nat.not_lt_zero _)⟩
theorem Dr.make{N g0 n:Nat}{w:World}{vs:List Value}{l:List Az}{o:Az}(h:Dr N w g0 vs l Re n)(ho:l[n]?=some o)(hq:o.secs.length≤maxLen):
 Dr N ((w.alloc (.cells (madeCells #[.slice none 0 0,.int .i64 0,.int .i64 0,.bool false] (o.secs.length*4)) 211)).setCell ⟨g0,n,none⟩ (Dt w.heap.size o.secs.length)) g0 (vs.set n (Dt w.heap.size o.secs.length)) l Re (n+1):=by
 have hnl:n < l.length:=(Ab.1 ho).1;have hg:=h.size;have hvl:vs.length=l.length:=by have:=h.tab.1;omega
 have hrow:=World.ownsRow_lit (base:=N) (e:=211) (size:=4) w (madeCells #[.slice none 0 0,.int .i64 0,.int .i64 0,.bool false] (o.secs.length*4)) o.secs.length (by omega) hq (size_madeCells _ _);rw[Jim]at hrow;have hst:=(h.tab.alloc (.cells (madeCells #[.slice none 0 0,.int .i64 0,.int .i64 0,.bool false] (o.secs.length*4)) 211)).stored n (Dt w.heap.size o.secs.length);have hrow2:=hrow.kept hst.2 (.inr (by simp only[Value.ownBlock,ne_eq,Option.some.injEq];omega));have hf:FrT N [208] w ((w.alloc (.cells (madeCells #[.slice none 0 0,.int .i64 0,.int .i64 0,.bool false] (o.secs.length*4)) 211)).setCell ⟨g0,n,none⟩ (Dt w.heap.size o.secs.length)):=
  (FrT.of_below ((Ag _ w).alloc (Af _) _)).trans (FrT.grown (h.tab.alloc _) (show World.grownBy _ _ (some g0) from hst.2) (by simp) (Af _))
 have hold:∀i o',i < n→l[i]?=some o'→∃(b:Nat)(row:List Fu),vs[i]?=some (Dt b o'.secs.length)∧w.ownsRow N 211 4 (Dt b o'.secs.length) o'.secs.length (row.flatMap Fu.cells)∧(∀x∈row,x.ok N w)∧row.map Fu.x=o'.secs.mapIdx (Re i):=h.row;refine⟨hst.1,fun i o' hi ho'=>?_,fun i j b c m k hi hj hb hc hij=>?_⟩
 ·by_cases hin:i=n
  ·subst hin;rw[ho]at ho';cases ho';refine⟨w.heap.size,List.replicate o.secs.length (Fu.mk ⟨[],0,0,false⟩ (.slice none 0 0)),by rw[List.getElem?_set,if_pos rfl,if_pos (by omega)],hrow2,fun x hx=>?_,?_⟩
   ·rw[List.eq_of_mem_replicate hx];exact⟨Aq _ _ _ _,fun p hp=>absurd hp (by simp)⟩
   ·apply List.ext_getElem?;intro t;rw[List.getElem?_map,List.getElem?_replicate,List.getElem?_mapIdx];by_cases ht:t < o.secs.length
    ·rw[if_pos ht,Ae ht];rfl
    ·rw[if_neg ht,List.getElem?_eq_none (by omega)];rfl
  ·obtain⟨b,row,e1,e2,e3,e4⟩:=hold i o' (by omega) ho';exact⟨b,row,by rw[List.getElem?_set,if_neg (fun e=>hin e.symm)];exact e1,hf.owns e2 (by decide),fun x hx=>(e3 x hx).fr hf (by decide),e4⟩
 ·have hlt:∀t b m,t < n→vs[t]?=some (Dt b m)→b < w.heap.size:=fun t b m ht hv=>by
   obtain⟨b',row,e1,e2,_⟩:=hold t (l[t]'(by omega)) ht (Ae (by omega));rw[hv]at e1;cases e1;exact(e2.lt b rfl).2
  rw[List.getElem?_set]at hb hc;by_cases h1:n=i
  ·rw[if_pos h1,if_pos (by omega)]at hb;cases hb;by_cases h2:n=j
   ·omega
   ·rw[if_neg h2]at hc;have:=hlt j c k (by omega) hc;omega
  ·rw[if_neg h1]at hb;by_cases h2:n=j
   ·rw[if_pos h2,if_pos (by omega)]at hc;cases hc;have:=hlt i b m (by omega) hb;omega
   ·rw[if_neg h2]at hc;exact h.apart i j b c m k (by omega) (by omega) hb hc hij
theorem Ec(w:World)(x y:Obj):((w.alloc x).alloc y).drew.heap[w.heap.size]?=some x∧((w.alloc x).alloc y).drew.heap[w.heap.size+1]?=some y∧Below w.heap.size w ((w.alloc x).alloc y).drew:=by
 refine⟨?_,?_,(((Ag _ w).alloc (Af _) _).alloc (by simp) _).drew⟩
 ·exact(Below.heap_alloc (w.alloc x) y w.heap.size (by simp)).trans (Ah w x)
 ·have:=Ah (w.alloc x) y;rw[show(w.alloc x).heap.size=w.heap.size+1 by simp]at this;exact this
theorem Jl{w:World}{g N:Nat}{v0 v1 v2 v3:Value}{T:TypeId}(u0 u1 u2 u3:Value)(hN:N≤g)(h:w.heap[g]?=some (.cells #[v0,v1,v2,v3] T (0,0))):
 ((((w.setCell ⟨g,0,none⟩ u0).setCell ⟨g,1,none⟩ u1).setCell ⟨g,2,none⟩ u2).setCell ⟨g,3,none⟩ u3).heap[g]?=some (.cells #[u0,u1,u2,u3] T (0,0))∧FrT N [T] w ((((w.setCell ⟨g,0,none⟩ u0).setCell ⟨g,1,none⟩ u1).setCell ⟨g,2,none⟩ u2).setCell ⟨g,3,none⟩ u3):=by
 have h0:=An w g 0 _ _ u0 h;have h1:=An _ g 1 _ _ u1 h0;have h2:=An _ g 2 _ _ u2 h1;have h3:=An _ g 3 _ _ u3 h2;exact⟨h3,(((FrT.set h (by simp) hN _).trans (FrT.set h0 (by simp) hN _)).trans (FrT.set h1 (by simp) hN _)).trans (FrT.set h2 (by simp) hN _)⟩
theorem Jfs{fn:Func}{p:Tmp}(h:fn.results= #[.cell p 154])(tmps:Array Value)(w:World)(g:Nat)(v0 v1 v2 v3:Value)(hp:tmps.getD p undef= .pointer (some ⟨g,0,none⟩))
 (hg:w.heap[g]?=some (.cells #[v0,v1,v2,v3] 154 (0,0))):(results fn tmps).run Tryz.prog w= .ok (.agg #[v0,v1,v2,v3]) w:=by
 obtain⟨r0,r1,r2,r3⟩:=Cp _ _ _ _ _ _ _ hg;have hp2:tmps[p]?.getD undef= .pointer (some ⟨g,0,none⟩):=by simpa using hp
 simp[results,h,hp2,go_sem,r0,r1,r2,r3]
def Jlm(p q1 q2:Option Addr)(c m1 d1 m2 d2:Nat)(l:List Az)(D:List (List Bool))(w:World)(e:Ending)(w':World):Prop:=
 ∃g0,e= .returned (.agg #[.slice p l.length c,.slice q1 m1 d1,.slice q2 m2 d2,Dt g0 l.length])∧Bg 1 Gj w' (some ⟨g0,0,none⟩) (Iy l D)∧Below w.heap.size w w'
theorem Joc(p pd pf:Option Addr)(c cd nf cf:Nat)(l:List Az)(D:List (List Bool))(w:World)(h:Bg 5 Cg w p l)(hok:∀o∈l,OkD o)(hsg:Gi l)(hlc:l.length≤1000)(hD:Er w pd l D)
 (hW:∀W,Below w.heap.size w W→∀(o:Nat)(s:Int),Bn s→o≤1000000→Calls Tryz.prog 25 #[.slice p l.length c,.agg #[.slice pd D.length cd,.slice pf nf cf],.int .i64 (o:Int),.int .i64 s] W (Mq (Ck l D o s) W)):
 Calls Tryz.prog 68 #[.slice p l.length c,.agg #[.slice pd D.length cd,.slice pf nf cf]] w (Jlm p pd pf c D.length cd nf cf l D w):=by
 obtain⟨i0,gi,gz0,gz1,gz2⟩:=info_parts Tryz.infoSect;obtain⟨i1,ki,kz0,kz1,kz2⟩:=info_parts Tryz.infoSects;have GI:=Aa gi;have G0:=Aa gz0;have G1:=Aa gz1;have G2:=Aa gz2;have KI:=Aa ki;have K0:=Aa kz0;have K1:=Aa kz1;have K2:=Aa kz2;have HSPLIT:=Aa fun g0 vs W hb hm=>Jhe p pd pf c cd nf cf g0 l D vs w W h hok hsg hlc hD hb hm;have HNUM:=Aa fun g0 vs W hb hm=>Je7 p pd pf c D.length cd nf cf g0 l D vs w W h hok hlc hb hm;have HMARK:=Aa fun g0 vs W hb hm=>Jj7 p pd pf c D.length cd nf cf g0 l D vs w W h hok hlc hb hm hW;have HH:=Aa h;have HOK:=Aa hok;generalize hln:l.length=ln at*;have HLN:=Aa hln;generalize hdn:D.length=dn at*;have hw0:Below w.heap.size w ((w.alloc (.cells #[.slice pd dn cd,.slice pf nf cf] 49)).alloc (.cells #[.slice none 0 0,.slice none 0 0,.slice none 0 0,.slice none 0 0] 154)):=((Ag _ w).alloc (Af _) _).alloc (by simp) _;have hT:((w.alloc (.cells #[.slice pd dn cd,.slice pf nf cf] 49)).alloc (.cells #[.slice none 0 0,.slice none 0 0,.slice none 0 0,.slice none 0 0] 154)).heap[w.heap.size]?=some (.cells #[.slice pd dn cd,.slice pf nf cf] 49 (0,0)):=by
  rw[Below.heap_alloc _ _ _ (by simp)];exact Ah w _
 have hZ:((w.alloc (.cells #[.slice pd dn cd,.slice pf nf cf] 49)).alloc (.cells #[.slice none 0 0,.slice none 0 0,.slice none 0 0,.slice none 0 0] 154)).heap[w.heap.size+1]?=some (.cells #[.slice none 0 0,.slice none 0 0,.slice none 0 0,.slice none 0 0] 154 (0,0)):=by
  have:=Ah (w.alloc (.cells #[.slice pd dn cd,.slice pf nf cf] 49)) (.cells #[.slice none 0 0,.slice none 0 0,.slice none 0 0,.slice none 0 0] 154);simpa using this
 have hb8:(i1.bytes:Int)*(ln:Int)≤281474976710656:=by rw[kz2];omega
 have hmk:∀W:World,(Instr.makeSlice 152 (.int .i64 (ln:Int)) (.int .i64 (ln:Int))).run Tryz.prog W= .ok (.slice (some ⟨W.heap.size,0,none⟩) ln ln) (W.alloc (.cells (madeCells #[.slice none 0 0] (ln*1)) 208)):=fun W=>by
  have:=run_make (P:=Tryz.prog) W 152 208 i1 (.slice none 0 0) Tryz.underlying152 ki kz0 .i64 .i64 (ln:Int) (ln:Int) (by omega) (by omega) hb8 (by omega);rw[kz1]at this;exact this
 clear gi gz0 gz1 gz2 ki kz0 kz1 kz2 h hok hsg hD hW hln hdn hb8;generalize hgb:w.heap.size=gb at*;have HGB:=Aa hgb;have HMK:=Aa hmk;have hms:=size_madeCells #[Value.slice none 0 0] (ln*1);generalize hmc:madeCells #[.slice none 0 0] (ln*1)=MC at*;have HMC:=Aa hmc;have HMS:=Aa hms;have HW0:=Aa hw0;have HT:=Aa hT;have HZ:=Aa hZ;clear hgb hmc hms hw0 hT hZ;go_enter Tryz.func68,Tryz.ntmps68;go_upto_region 1 with fail
 generalize (w.alloc (.cells #[.slice pd dn cd,.slice pf nf cf] 49)).alloc (.cells #[.slice none 0 0,.slice none 0 0,.slice none 0 0,.slice none 0 0] 154)=w1 at*;rw[HGB.out];obtain⟨⟨a0,a1⟩,_⟩:=Bz _ _ _ _ _ HT.out;have hgs:gb+1 < w1.heap.size:=(Ac.1 HZ.out).1;go_cut [5] (fun s5 wx=>∃g0 g5,s5= .pointer (some ⟨g5,0,none⟩)∧wx.heap[g5]?=some (.cells #[.slice p ln c,.slice pd dn cd,.slice pf nf cf,.slice (some ⟨g0,0,none⟩) ln ln] 154 (0,0))∧wx.heap[g0]?=some (.cells MC 208 (0,0))∧gb+1 < g0∧gb+1 < g5∧Below w1.heap.size w1 wx)
 case first=>
  go_region_held (fun W=>W.cell? ⟨gb,0,none⟩=some (.slice pd dn cd)∧W.cell? ⟨gb,1,none⟩=some (.slice pf nf cf)) (first|exact⟨a0,a1⟩|go_keep|fail) (fail)
  all_goals go_wp2_with fail
  all_goals go_meet
  all_goals first
   |exact⟨_,_,rfl,(Ec w1 _ _).2.1,(Ec w1 _ _).1,by omega,by omega,(Ec w1 _ _).2.2⟩
   |exact⟨_,_,rfl,(Ec w1 _ _).1,(Ec w1 _ _).2.1,by omega,by omega,(Ec w1 _ _).2.2⟩
 case rest=>
  obtain⟨g0,g5,rfl,hg5,hg0,hlt0,hlt5,hbc⟩:=hcut
  have hsm:Dr gb wc g0 MC.toList l Re 0:=Dr.start (by
   rw[HLN.out]
   exact⟨by rw[Array.length_toList];exact HMS.out,.inr ⟨g0,ln,MC,rfl,by omega,hg0,Af _,by unfold maxLen;omega,HMS.out,List.take_of_length_le (by rw[Array.length_toList,HMS.out];exact Af _)⟩⟩)
  have HB:=Aa (HW0.out.trans (hbc.mono (by omega)));have HSM:=Aa hsm;have hgs2:gb+1 < wc.heap.size:=by have:=hbc.size;omega
  have HZC:=Aa ((hbc.block (gb+1) hgs).trans HZ.out);clear hsm hg0 hbc a0 a1 HMK;go_wp2_with fail
  go_loopw [15,6] (fun r15 _ wr=>∃(i:Nat)(vs:List Value),r15= .int .i64 (i:Int)∧i≤ln∧Dr gb wr g0 vs l Re i∧wr.heap[g5]?=some (.cells #[.slice p ln c,.slice pd dn cd,.slice pf nf cf,.slice (some ⟨g0,0,none⟩) ln ln] 154 (0,0))∧wr.heap[gb+1]?=some (.cells #[.slice none 0 0,.slice none 0 0,.slice none 0 0,.slice none 0 0] 154 (0,0))∧Below gb w wr) (fun r15 _ _=>ln - (intOf r15).toNat)
  case atStart=>exact⟨0,_,rfl,Ak _,HSM.out,hg5,HZC.out,HB.out⟩
  case round=>
   obtain⟨i,vs,rfl,hi,hm,hB5,hZ5,hb⟩:=hrel;clear hg5;by_cases hlt:i < ln
   ·obtain⟨o,ho⟩:∃o,l[i]?=some o:=⟨_,Ae (by rw[HLN.out];exact hlt)⟩
    have HO:=Aa ho;have hoo:=HOK.out o (Ad ho);have hql:=hoo.few.1;obtain⟨b,off,p0,p1,p2,p4,c0,c1,c2,c4,hpe,e0',_⟩:=Du HH.out ho;subst hpe;have e0:=Ax (by rw[HGB.out];exact hb) e0';have hmm:=hm.make ho (by unfold maxLen;omega);obtain⟨ql,hqn⟩:∃ql,ql=o.secs.length:=⟨_,rfl⟩
    rw[←hqn]at hql e0 e0' hmm;obtain⟨i0,gi,gz0,gz1,gz2⟩:=info_parts Tryz.infoSect;have hb8:(i0.bytes:Int)*(ql:Int)≤281474976710656:=by rw[gz2];omega
    have hmk:∀W:World,(Instr.makeSlice 208 (.int .i64 (ql:Int)) (.int .i64 (ql:Int))).run Tryz.prog W= .ok (.slice (some ⟨W.heap.size,0,none⟩) ql ql) (W.alloc (.cells (madeCells #[.slice none 0 0,.int .i64 0,.int .i64 0,.bool false] (ql*4)) 211)):=fun W=>by
     have:=run_make (P:=Tryz.prog) W 208 211 i0 _ Tryz.underlying208 gi gz0 .i64 .i64 (ql:Int) (ql:Int) (by omega) (by omega) hb8 (by omega);rw[gz1]at this;exact this
    generalize madeCells #[.slice none 0 0,.int .i64 0,.int .i64 0,.bool false] (ql*4)=MC2 at*;have hvl:=hm.tab.1;obtain⟨vo,hvo⟩:∃vo,vs[i]?=some vo:=⟨_,Ae (by rw[HLN.out]at hvl;omega)⟩
    have r0:wr.cell? ⟨g0,i,none⟩=some vo:=(hm.tab.cellAt i (by rw[HLN.out];omega)).trans hvo;have f0:=hm.tab.frozenAt i;have y3:wr.cell? ⟨g5,3,none⟩=some (.slice (some ⟨g0,0,none⟩) ln ln):=(Am wr g5 3 _ _ (0,0) hB5).trans rfl;have hal:Below wr.heap.size wr (wr.alloc (.cells MC2 211)):=(Ag _ wr).alloc (Af _) _;have hne5:g5≠g0:=fun e=>by
     rcases hm.tab.2 with⟨e1,_⟩|⟨g1,cap,cur,e1,_,e2,_⟩
     ·cases e1
     ·cases e1;rw[←e,hB5]at e2;simp only[Option.some.injEq,Obj.cells.injEq]at e2;exact absurd e2.2.1 (by decide)
    have hne1:gb+1≠g0:=by omega
    have HMM:=Aa hmm;have HBX:Hid (((wr.alloc (.cells MC2 211)).setCell ⟨g0,i,none⟩ (Dt wr.heap.size ql)).heap[g5]?=_):=Aa ((heap_setCell_other _ ⟨g0,i,none⟩ g5 _ hne5).trans ((hal.block g5 (Ac.1 hB5).1).trans hB5));have HZX:Hid (((wr.alloc (.cells MC2 211)).setCell ⟨g0,i,none⟩ (Dt wr.heap.size ql)).heap[gb+1]?=_):=Aa ((heap_setCell_other _ ⟨g0,i,none⟩ (gb+1) _ hne1).trans ((hal.block (gb+1) (Ac.1 hZ5).1).trans hZ5));have HBBX:Hid (Below gb w ((wr.alloc (.cells MC2 211)).setCell ⟨g0,i,none⟩ (Dt wr.heap.size ql))):=Aa ((hb.trans (hal.mono (by have:=(Ac.1 hZ5).1;omega))).setCell (by simp only;omega) _);have j1:(i:Int) < (ln:Int):=by omega
    have j0:(0:Int)≤(i:Int):=by omega
    have f0a:(wr.alloc (.cells MC2 211)).frozen? ⟨g0,i,none⟩=false:=(hm.tab.alloc (.cells MC2 211)).frozenAt i;have r0a:(wr.alloc (.cells MC2 211)).cell? ⟨g0,i,none⟩=some vo:=Ax hal r0;have y3s:((wr.alloc (.cells MC2 211)).setCell ⟨g0,i,none⟩ (Dt wr.heap.size ql)).drew.cell? ⟨g5,3,none⟩=some (.slice (some ⟨g0,0,none⟩) ln ln):=(Am _ g5 3 _ _ (0,0) HBX.out).trans rfl;have e0s:((wr.alloc (.cells MC2 211)).setCell ⟨g0,i,none⟩ (Dt wr.heap.size ql)).drew.cell? ⟨b,off+i*5,none⟩=some (.slice p0 ql c0):=Ax (by rw[HGB.out];exact HBBX.out.drew) e0';have Y3S:=Aa y3s;have E0S:=Aa e0s;clear ho hoo hqn e0' gi gz0 gz1 gz2 hb8 hvl hvo hmm hm hB5 hZ5 hb hne5 hne1 hal y3s e0s;go_upto_region 5 with fail
    go_region_held (fun W=>W.cell? ⟨g5,3,none⟩=some (.slice (some ⟨g0,0,none⟩) ln ln)∧W.cell? ⟨b,off+i*5,none⟩=some (.slice p0 ql c0)) (first|exact⟨y3,e0⟩|exact⟨Y3S.out,E0S.out⟩|go_keep|fail) (fail)
    all_goals go_wp2_with fail
    all_goals go_roundw
    case rel=>exact⟨i+1,_,by go_num,hlt,HMM.out.below (Ag _ _).drew,HBX.out,HZX.out,HBBX.out.drew⟩
    case measure=>simp[intOf];omega
   ·obtain rfl:i=ln:=by omega
    have j1:¬(i:Int) < (i:Int):=by omega
    have y:wr.cell? ⟨g5,0,none⟩=some (.slice p i c)∧wr.cell? ⟨g5,1,none⟩=some (.slice pd dn cd)∧wr.cell? ⟨g5,2,none⟩=some (.slice pf nf cf)∧wr.cell? ⟨g5,3,none⟩=some (.slice (some ⟨g0,0,none⟩) i i):=by
     refine⟨?_,?_,?_,?_⟩
     all_goals exact(Am wr g5 _ _ _ (0,0) hB5).trans rfl
    obtain⟨y0,y1,y2,y3⟩:=y;have hsp:=HSPLIT.out g0 vs wr hb hm;have HSP:=Aa hsp;have HB5:=Aa hB5;have HZ5:=Aa hZ5;have HBB:=Aa hb;clear hsp hB5 hZ5 hb hm
    go_upto_region 8 with(first|(go_at_call 112
                                 refine HSP.out.mono ?_
                                 rintro e w6 ⟨rfl,hm6,hf6⟩)|fail)
    have hB6:=hf6.heap HB5.out (by decide);have hb6:=HBB.out.trans (hf6.below (by have:=(Ac.1 HZ5.out).1;omega));have HZ6:=Aa (hf6.heap HZ5.out (by decide));have hm6':=hm6.congr (g:=Em l D 0 0 []) (by rw[←HLN.out];exact Jbz);have y:w6.cell? ⟨g5,0,none⟩=some (.slice p i c)∧w6.cell? ⟨g5,1,none⟩=some (.slice pd dn cd)∧w6.cell? ⟨g5,2,none⟩=some (.slice pf nf cf)∧w6.cell? ⟨g5,3,none⟩=some (.slice (some ⟨g0,0,none⟩) i i):=by
     refine⟨?_,?_,?_,?_⟩
     all_goals exact(Am w6 g5 _ _ _ (0,0) hB6).trans rfl
    clear y0 y1 y2 y3;obtain⟨y0,y1,y2,y3⟩:=y;have HNU:=Aa (HNUM.out g0 vs w6 hb6 hm6');have HB6:=Aa hB6;have HBB6:=Aa hb6;clear hm6 hf6 hB6 hb6 hm6'
    go_upto_region 9 with(first|(go_at_call 113
                                 refine HNU.out.mono ?_
                                 rintro e w7 ⟨rfl,hm7,hf7⟩)|fail)
    have hB7:=hf7.heap HB6.out (by decide);have hb7:=HBB6.out.trans (hf7.below (by have:=(Ac.1 HZ6.out).1;omega));have HZ7:=Aa (hf7.heap HZ6.out (by decide));have hm7':=hm7.congr (g:=Fy l D 0 0) (by rw[←HLN.out];exact Jfz);have y:w7.cell? ⟨g5,0,none⟩=some (.slice p i c)∧w7.cell? ⟨g5,1,none⟩=some (.slice pd dn cd)∧w7.cell? ⟨g5,2,none⟩=some (.slice pf nf cf)∧w7.cell? ⟨g5,3,none⟩=some (.slice (some ⟨g0,0,none⟩) i i):=by
     refine⟨?_,?_,?_,?_⟩
     all_goals exact(Am w7 g5 _ _ _ (0,0) hB7).trans rfl
    clear y0 y1 y2 y3;obtain⟨y0,y1,y2,y3⟩:=y;have HMK:=Aa (HMARK.out g0 vs w7 hb7 hm7');have HB7:=Aa hB7;have HBB7:=Aa hb7;clear hm7 hf7 hB7 hb7 hm7';go_wp2_with fail
    refine HMK.out.mono ?_;rintro e w8 ⟨rfl,hm8,hf8⟩;have hB8:=hf8.heap HB7.out (by decide);have hb8:=HBB7.out.trans (hf8.below (by have:=(Ac.1 HZ7.out).1;omega));have hZ8:=hf8.heap HZ7.out (by decide);have y:w8.cell? ⟨g5,0,none⟩=some (.slice p i c)∧w8.cell? ⟨g5,1,none⟩=some (.slice pd dn cd)∧w8.cell? ⟨g5,2,none⟩=some (.slice pf nf cf)∧w8.cell? ⟨g5,3,none⟩=some (.slice (some ⟨g0,0,none⟩) i i):=by
     refine⟨?_,?_,?_,?_⟩
     all_goals exact(Am w8 g5 _ _ _ (0,0) hB8).trans rfl
    clear y0 y1 y2 y3;obtain⟨y0,y1,y2,y3⟩:=y;have hset:=Jl (.slice p i c) (.slice pd dn cd) (.slice pf nf cf) (.slice (some ⟨g0,0,none⟩) i i) (show gb≤gb+1 by omega) hZ8;have hm9:=hm8.fr hset.2 (by decide) (by decide) (by decide)
    have HROWS:Hid (Bg 1 Gj ((((w8.setCell ⟨gb+1,0,none⟩ (.slice p i c)).setCell ⟨gb+1,1,none⟩ (.slice pd dn cd)).setCell ⟨gb+1,2,none⟩ (.slice pf nf cf)).setCell ⟨gb+1,3,none⟩ (.slice (some ⟨g0,0,none⟩) i i)) (some ⟨g0,0,none⟩) (Iy l D)):=Aa (by
     rw[show i=l.length from HLN.out.symm]at hm9⊢
     exact hm9.rows)
    have HB9:=Aa (hb8.trans (hset.2.below (by have:=(Ac.1 hZ8).1;omega)));have HC9:Hid (((((w8.setCell ⟨gb+1,0,none⟩ (.slice p i c)).setCell ⟨gb+1,1,none⟩ (.slice pd dn cd)).setCell ⟨gb+1,2,none⟩ (.slice pf nf cf)).setCell ⟨gb+1,3,none⟩ (.slice (some ⟨g0,0,none⟩) i i)).heap[gb+1]?=_):=Aa hset.1;obtain⟨z0,z1,z2,z3⟩:=Cp _ _ _ _ _ _ _ hZ8;have f0:=Ap w8 (gb+1) 0 _ _ hZ8;have f1:=Ap w8 (gb+1) 1 _ _ hZ8;have f2:=Ap w8 (gb+1) 2 _ _ hZ8;have f3:=Ap w8 (gb+1) 3 _ _ hZ8;clear hset hm9 hm8 hf8 hB8 hb8 hZ8;go_wp2_with fail
    exact bodyPost_ret (Jfs rfl _ _ _ _ _ _ _ (by rfl) HC9.out) rfl ⟨g0,by rw[HLN.out],HROWS.out,by rw[HGB.out];exact HB9.out⟩
end Go.Proofs.YteopgmieindojaaGreat
