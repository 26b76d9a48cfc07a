/- Parts of a proof. -/
import Derived.Test.YteopgmieindojaaGreatGX16
import Derived.Test.YteopgmieindojaaGreatGX03
import Derived.Test.YteopgmieindojaaGreatGX13
import Derived.Deep.QuietTactic
import Derived.BigQuiet
import Derived.Lib.IfaceEq
set_option maxRecDepth 1000000
set_option maxHeartbeats 8000000
namespace Go.Proofs.YteopgmieindojaaGreat
open Go.RowKit
theorem Jez(p:Option Addr)(c:Nat)(l:List Az)(w:World)(h:Bg 5 Cg w p l)(hln:l.length≤100)(f:Az→Bool)(mb:Bool)(hmb:mb=(decide (l.length≤8)&&l.all f))(hyes:mb=true→∀o∈l,OkD o)
 (hmay:∀o∈l,∀W (v0 v1 v2 v4:Value),Dn W v0 v1 v2 v4 o→Calls Tryz.prog 10 #[.agg #[v0,v1,v2,.bool o.hasSig,v4]] W fun e w'=>e= .returned (.bool (f o))∧Below W.heap.size W w'):
 Calls Tryz.prog 20 #[.slice p l.length c] w (Jcf l mb w):=by
 have hg0:=Ah w (.cells #[Cb,Cb] 54);have hg1:=Ah (w.alloc (.cells #[Cb,Cb] 54)) (.cells #[Cb,Cb] 54);have hg2:=(Below.heap_alloc (w.alloc (.cells #[Cb,Cb] 54)) (.cells #[Cb,Cb] 54) w.heap.size (by simp)).trans hg0;have hb0:Below w.heap.size w ((w.alloc (.cells #[Cb,Cb] 54)).alloc (.cells #[Cb,Cb] 54)):=((Ag _ w).alloc (Af _) _).alloc (by simp) _;rw[show(w.alloc (.cells #[Cb,Cb] 54)).heap.size=w.heap.size+1 by simp]at hg1;have HH:=Aa fun W (hW:Below w.heap.size w W)=>h.below Cg.keeps hW;have HM:=Aa hmay;have HYES:=Aa hyes;have HMB:=Aa hmb;have HTOLD:=Aa fun(w':World)(n:Int)(v0 v1:Value)(ht:Uy l mb w' n v0 v1)(hb:Below w.heap.size w w')=>(show Jcf l mb w (.returned (.tuple #[.agg #[v0,v1],.int .i64 n])) w' from⟨n,v0,v1,rfl,ht,hb⟩)
 generalize hL:l.length=ln at*;have HLN:=Aa hL;clear h hmay hyes hmb hg0 hL;go_enter Tryz.func20,Tryz.ntmps20;go_upto_region 2 with fail
 generalize (w.alloc (.cells #[Cb,Cb] 54)).alloc (.cells #[Cb,Cb] 54)=w1 at*;generalize hgb:w.heap.size=gb at*;have HGB:=Aa hgb;clear hgb;by_cases h8:8 < ln
 ·have hI:(8:Int) < (ln:Int):=by omega
  have hE:Hid (mb=false):=Aa (by rw[HMB.out,Ai (by omega:¬ln≤8)];rfl);obtain⟨⟨a0,a1⟩,_⟩:=Bz _ _ _ _ _ hg1;obtain⟨⟨r0,r1⟩,r2,r3⟩:=Bz _ _ _ _ _ hg2;have hst:=Lw Cb Cb (Af gb) hg2;have HST:=Aa hst;have hsz:gb≤w1.heap.size:=Ar (Ac.1 hg2).1;clear hst;go_wp2_with fail
  exact bodyPost_ret (Lp rfl _ _ _ _ _ _ (by rfl) (by rfl) HST.out.1) rfl (HTOLD.out _ 1 Cb Cb (.inl ⟨hE.out,rfl,rfl,rfl⟩) (by first|exact hb0.trans (HST.out.2.below hsz)|(rw[HGB.out];exact hb0.trans (HST.out.2.below hsz))))
 have hI:¬(8:Int) < (ln:Int):=by omega
 go_wp2_with fail
 go_loopw [5] (fun r5 wr=>∃i:Nat,i≤ln∧r5= .int .i64 (i:Int)∧(l.take i).all f=true∧wr.heap[gb]?=some (.cells #[Cb,Cb] 54 (0,0))∧wr.heap[gb+1]?=some (.cells #[Cb,Cb] 54 (0,0))∧Below gb w wr) (fun r5 _=>ln - (intOf r5).toNat)
 case atStart=>exact⟨0,Ak _,rfl,rfl,hg2,hg1,hb0⟩
 case round=>
  obtain⟨i,hi,rfl,hall,hR,hT,hb⟩:=hrel;have HALL:=Aa hall;clear hall hg1 hg2 hb0;by_cases hlt:i < ln
  ·obtain⟨o,ho⟩:∃o,l[i]?=some o:=⟨_,Ae (by rw[HLN.out];exact hlt)⟩
   obtain⟨b,off,hpe,v0,v1,v2,v4,e0,e1,e2,e3,e4,i0,i1,i2,i4⟩:=HH.out wr (by first|exact hb|(rw[HGB.out];exact hb)) i o ho;subst hpe;have hpt:Dn wr v0 v1 v2 v4 o:=⟨i0,i1,i2,i4⟩
   have hcall:=HM.out o (Ad ho) _ _ _ _ _ hpt;obtain⟨p0,c0,rfl,_⟩:=i0;obtain⟨p1,c1,rfl,_⟩:=i1;obtain⟨p2,c2,rfl,_⟩:=i2;obtain⟨p4,c4,rfl,_⟩:=i4;have hst:(l.take (i+1)).all f=f o:=by rw[Sl ho,List.all_append,HALL.out];simp
   have hmm:o∈l:=Ad ho;obtain⟨fo,hfo⟩:∃fo,fo=f o:=⟨_,rfl⟩
   rw[←hfo]at hcall hst;have HFO:=Aa (And.intro hmm hfo);have HST:=Aa hst;have hJ:(i:Int) < (ln:Int):=by omega
   have hJ0:(0:Int)≤(i:Int):=by omega
   have hRs:gb < wr.heap.size:=(Ac.1 hR).1;have hTs:gb+1 < wr.heap.size:=(Ac.1 hT).1;have HC:=Aa hcall;clear ho hmm hfo hst hpt hcall;go_wp2_with fail
   refine HC.out.mono ?_;rintro e w2 ⟨rfl,hb2⟩;have hR2:=(hb2.block gb hRs).trans hR;have hT2:=(hb2.block (gb+1) hTs).trans hT;have hb3:Below gb w w2:=hb.trans (hb2.mono (by omega));clear hR hT hb hb2 e0 e1 e2 e3 e4 HC;cases fo with
   |true=>
    go_wp2_with fail
    go_roundw
    case rel=>exact⟨i+1,hlt,by go_num,HST.out,hR2,hT2,hb3⟩
    case measure=>simp[intOf];omega
   |false=>
    have hE:Hid (mb=false):=Aa (by rw[HMB.out,show l.all f=false by rw[List.all_eq_false];exact⟨o,HFO.out.1,by rw[←HFO.out.2];simp⟩,Bool.and_false]);obtain⟨⟨r0,r1⟩,r2,r3⟩:=Bz _ _ _ _ _ hR2;have hst:=Lw Cb Cb (Af gb) hR2;have HST2:=Aa hst;have hsz:gb≤w2.heap.size:=Ar (Ac.1 hR2).1;clear hst;go_wp2_with fail
    exact bodyPost_ret (Lp rfl _ _ _ _ _ _ (by rfl) (by rfl) HST2.out.1) rfl (HTOLD.out _ 1 Cb Cb (.inl ⟨hE.out,rfl,rfl,rfl⟩) (by first|exact hb3.trans (HST2.out.2.below hsz)|(rw[HGB.out];exact hb3.trans (HST2.out.2.below hsz))))
  ·obtain rfl:i=ln:=by omega
   have hJ:¬(i:Int) < (i:Int):=by omega
   have hmbt:mb=true:=by
    rw[HMB.out,Aj (by omega:i≤8),Bool.true_and];have:=HALL.out
    rwa [List.take_of_length_le (by rw[HLN.out];exact Af _)]at this
   have HOK:=Aa (HYES.out hmbt);have HMBT:=Aa hmbt;obtain⟨i1,ki,kz0,kz1,kz2⟩:=info_parts Tryz.infoBools;have KI:=Aa ki;have K0:=Aa kz0;have K1:=Aa kz1;have K2:=Aa kz2;have HDR:=Aa fun(j:Nat)(o:Az)(ho:l[j]?=some o)(W:World)(hW:Below gb w W)=>Jdm p c j l W (HH.out W (by first|exact hW|(rw[HGB.out];exact hW))) HOK.out (by rw[HLN.out];omega) ho;rw[HLN.out]at HDR;clear hmbt HALL HM HMB HYES ki kz0 kz1 kz2;go_wp2_with fail
   go_loopw [7] (fun r7 wr=>∃(j:Nat)(vs:List Value)(vD:Value),j≤i∧r7= .int .i64 (j:Int)∧wr.heap[gb]?=some (.cells #[Cb,Cb] 54 (0,0))∧wr.heap[gb+1]?=some (.cells #[vD,Cb] 54 (0,0))∧
    vs.length=j∧wr.ownsRow gb 138 1 vD j vs∧Od wr gb vs l j∧Below gb w wr) (fun r7 _=>i - (intOf r7).toNat)
   case atStart=>exact⟨0, [],Cb,Ak _,rfl,hR,hT,rfl,Aq _ _ _ _,fun j o hj=>absurd hj (Nat.not_lt_zero _),hb⟩
   case round=>
    obtain⟨j,vs,vD,hj,rfl,hR2,hT2,hvl,hown,hrows,hb2⟩:=hrel;clear hR hT hb;by_cases hlt2:j < i
    ·obtain⟨o,ho⟩:∃o,l[j]?=some o:=⟨_,Ae (by rw[HLN.out];exact hlt2)⟩
     have hd:=HDR.out j o ho;have hK:(j:Int) < (i:Int):=by omega
     have hRs:gb < wr.heap.size:=(Ac.1 hR2).1;have hTs:gb+1 < wr.heap.size:=(Ac.1 hT2).1;obtain⟨⟨c0,c1⟩,z0,z1⟩:=Bz _ _ _ _ _ hT2;have HD:=Aa hd;have HO:=Aa ho;have HROWS:=Aa hrows;have HVL:=Aa hvl;obtain⟨pD,cD,rfl,_⟩:=Bl hown;clear hd ho hrows hvl;go_upto_region 13 with fail
     have hvd:vs.length=j:=HVL.out;go_region_law
      ((first
        |(go_simp;go_at_call 56
          refine(HD.out _ hb2.drew).mono ?_;rintro e w2 ⟨q,cq,rfl,hrow2,hbb2⟩;have hbT:Below wr.heap.size wr w2:=(Ag _ wr).drew.trans hbb2;have hTw:=(hbT.block (gb+1) hTs).trans hT2;have hRw:=(hbT.block gb hRs).trans hR2;have u0:=Ax hbT c0;have hownw:=Bd hown hbT;have hbw:=hb2.trans (hbT.mono (by omega));have hsw:gb≤w2.heap.size:=by have:=hbT.size;omega
          have u0a:(w2.alloc (.cells #[.slice q o.secs.length cq] 138)).cell? ⟨gb+1,0,none⟩=some (.slice pD j cD):=Ax ((Ag _ w2).alloc (Af _) _) u0
          have HROW:=Aa hrow2)
        |(refine step_append_lies _ (by rfl) _ _ _ (by rfl) gb 138 i1 (.slice none 0 0) 1 24 Tryz.underlying46 KI.out K0.out K1.out K2.out rfl (by decide) _ j _ (by rfl) (hownw.alloc _) ⟨w2.heap.size,0,none⟩ 1 1 [.slice q o.secs.length cq] (by rfl) (by rfl) (cell_one_new _ _ _) (by simp[Value.oneCell']) (by omega) (by unfold maxLen;omega) (by omega) (by simp;omega) _ rfl ?_
          intro g3 cap3 w3 hown3 hgrow3 _ _;have hfr:FrT gb [138] w2 w3:=(FrT.of_below ((Ag _ w2).alloc (Af _) _)).trans (FrT.grown (hownw.alloc _) hgrow3 (by simp) (Af _));have hT3:=hfr.heap hTw (by decide);have hR3:=hfr.heap hRw (by decide)
          obtain⟨⟨f0,f1⟩,y0,y1⟩:=Bz _ _ _ _ _ hT3)
        |fail))
     all_goals
      have hset:=An w3 (gb+1) 0 _ _ (.slice (some ⟨g3,0,none⟩) (j+1) cap3) hT3;have hfr4:FrT gb [54] w3 (w3.setCell ⟨gb+1,0,none⟩ (.slice (some ⟨g3,0,none⟩) (j+1) cap3)):=FrT.set hT3 (by simp) (by omega) _;have hR4:(w3.setCell ⟨gb+1,0,none⟩ (.slice (some ⟨g3,0,none⟩) (j+1) cap3)).heap[gb]?=some (.cells #[Cb,Cb] 54 (0,0)):=by
       rw[heap_setCell_other _ _ _ _ (by simp)];exact hR3
      have hown4:=hfr4.owns hown3 (by decide);have hrows4:Od (w3.setCell ⟨gb+1,0,none⟩ (.slice (some ⟨g3,0,none⟩) (j+1) cap3)) gb (vs++ [.slice q o.secs.length cq]) l (j+1):=
       ((HROWS.out.fr (FrT.of_below hbT:FrT gb [] wr w2) (by simp)).snoc HO.out HVL.out (Cm HROW.out (by have:=hb2.size;simp;omega))).fr (hfr.trans' hfr4) (by decide)
      have hb4:Below gb w (w3.setCell ⟨gb+1,0,none⟩ (.slice (some ⟨g3,0,none⟩) (j+1) cap3)):=(hbw.trans (hfr.below hsw)).trans (hfr4.below (by have:=hfr.size;omega));have HSET:=Aa hset;have HOWN4:=Aa hown4;have HROWS4:=Aa hrows4;have HB4:=Aa hb4;have HR4:=Aa hR4;clear hset hfr4 hR4 hown4 hrows4 hb4;go_wp2_with fail
      go_roundw
      case rel=>exact⟨j+1,vs++ [.slice q o.secs.length cq],_,hlt2,by go_num,HR4.out,HSET.out,by simp[HVL.out],HOWN4.out,HROWS4.out,HB4.out⟩
      case measure=>simp[intOf];omega
    ·obtain rfl:j=i:=by omega
     have hK:¬(j:Int) < (j:Int):=by omega
     have hRs:gb < wr.heap.size:=(Ac.1 hR2).1;have HDOK0:Hid (∀W,FrT gb [54] wr W→∃pd cd,vD= .slice pd l.length cd∧Er W pd l (dropsOf l)):=Aa fun W hW=>Ja9 (by rw[HLN.out];exact hW.owns hown (by decide)) (by rw[HLN.out];exact hrows.fr hW (by decide));obtain⟨pd,cd,hvd,_⟩:=HDOK0.out wr (FrT.refl _ _ _);rw[HLN.out]at hvd;subst hvd;have HDOK:Hid (∀W,FrT gb [54] wr W→Er W pd l (dropsOf l)):=Aa fun W hW=>by
      obtain⟨pd',cd',e,hd⟩:=HDOK0.out W hW;cases e;exact hd
     have HDIS:Hid (∀W,FrT gb [54] wr W→IsL 1 Fg W (.slice pd j cd) (dropsOf l)):=Aa fun W hW=>Jko (by rw[HLN.out];exact hW.owns hown (by decide)) (by rw[HLN.out];exact hrows.fr hW (by decide))
     have HTN:=Aa fun(W:World)(n:Int)(v0 v1:Value)(ht:Dl (Bc Az.syms l j) (dropsOf l) (Bc Az.syms l j) ([],false)=none∧n=3∧v0=Cb∧v1=Cb∨
      ∃defs u,Dl (Bc Az.syms l j) (dropsOf l) (Bc Az.syms l j) ([],false)=some (defs,u)∧(u=true∧n=4∧v0=Cb∧v1=Cb∨u=false∧n=0∧Vh W v0 v1 (dropsOf l) defs))(hb:Below gb w W)=>HTOLD.out W n v0 v1 (.inr ⟨HMBT.out,by rw[HLN.out];exact ht⟩) hb
     have hDL:(dropsOf l).length=j:=by simp[dropsOf,HLN.out]
     have hall:(Bc Az.syms l j).length≤1000*j:=Pt HOK.out j;have HALLN:=Aa hall;have hFI:=fun(W:World)(hb:Below gb w W)(hd:Er W pd l (dropsOf l))(vf:Value)(name:ByteArray)(bd:Int)=>Ys p pd c cd vf l (dropsOf l) name bd W (HH.out W (by first|exact hb|(rw[HGB.out];exact hb))) HOK.out (by rw[HLN.out];omega) hd;have hFD:=fun(W:World)(hb:Below gb w W)(hd:Er W pd l (dropsOf l))(vf:Value)(name:ByteArray)=>Jaj p pd c cd vf l (dropsOf l) name W (HH.out W (by first|exact hb|(rw[HGB.out];exact hb))) HOK.out (by rw[HLN.out];omega) hd;simp only[hDL,HLN.out]at hFI hFD;have HFI:=Aa hFI;have HFD:=Aa hFD;have HSTEP:=Aa fun(a b:Nat)(o:Az)(x:Ct)(ho:l[a]?=some o)(hx:o.syms[b]?=some x)=>(show Dl (Bc Az.syms l j) (dropsOf l) (Bo Az.syms l a (b+1)) ([],false)=(Dl (Bc Az.syms l j) (dropsOf l) (Bo Az.syms l a b) ([],false)).bind (refStep (Bc Az.syms l j) (dropsOf l) (a,b,x)) by rw[Fp ho hx,Yu])
     have HPRE:=Aa fun(a b:Nat)(o:Az)(ho:l[a]?=some o)(h:Dl (Bc Az.syms l j) (dropsOf l) (Bo Az.syms l a b) ([],false)=none)=>(show Dl (Bc Az.syms l j) (dropsOf l) (Bc Az.syms l j) ([],false)=none by
      obtain⟨r,hr⟩:=Wq (f:=Az.syms) (k:=b) ho;rw[HLN.out]at hr
      conv=>lhs;arg 3;rw[hr]
      exact Xl h)
     have HBD:=Aa fun(a:Nat)(o:Az)(ho:l[a]?=some o)=>(HOK.out o (Ad ho)).few.2.1
     have HLEN2:=Aa fun(a b:Nat)(o:Az)(ho:l[a]?=some o)(st:List Bb × Bool)(h:Dl (Bc Az.syms l j) (dropsOf l) (Bo Az.syms l a b) ([],false)=some st)=>(show st.1.length≤100000 by
      have h1:=Qy h;obtain⟨r,hr⟩:=Wq (f:=Az.syms) (k:=b) ho;rw[HLN.out]at hr;have h2:=congrArg List.length hr;rw[List.length_append]at h2;have h3:=HALLN.out;simp only[List.length_nil]at h1
      omega)
     generalize dropsOf l=DD at*;generalize hXS:Bc Az.syms l j=XS at*;have HXS:=Aa hXS;clear hXS;clear hDL hall hFI hFD hown hrows HDR;generalize hw0:wr=wo at*;clear hw0;go_wp2_with fail
     go_loopw [8,9] (fun r8 r9 wr=>∃(a:Nat)(u:Bool)(defs:List Bb)(pF:Option Addr)(cF:Nat),a≤j∧r9= .int .i64 (a:Int)∧r8= .bool u∧Dl XS DD (Bc Az.syms l a) ([],false)=some (defs,u)∧
      wr.heap[gb]?=some (.cells #[Cb,Cb] 54 (0,0))∧wr.heap[gb+1]?=some (.cells #[.slice pd j cd,.slice pF defs.length cF] 54 (0,0))∧IsL 3 Dg wr (.slice pF defs.length cF) defs∧FrT gb [54] wo wr∧Below gb w wr) (fun _ r9 _=>j - (intOf r9).toNat)
     case atStart=>exact⟨0,false, [],none,0,Ak _,rfl,rfl,rfl,hR2,hT2,⟨none,0,rfl,Af _,Ak _,fun _=>rfl,fun i x hx=>by simp at hx⟩,FrT.refl _ _ _,hb2⟩
     case round=>
      obtain⟨a,u,defs,pF,cF,ha,rfl,rfl,hgo,hR3,hT3,hD3,hf3,hb3⟩:=hrel;have HGO:=Aa hgo;have HD3:=Aa hD3;clear hR2 hT2 hb2 hgo hD3;by_cases hlt3:a < j
      ·obtain⟨o,ho⟩:∃o,l[a]?=some o:=⟨_,Ae (by rw[HLN.out];exact hlt3)⟩
       have HO:=Aa ho;have hK1:(a:Int) < (j:Int):=by omega
       have hK2:(0:Int)≤(a:Int):=by omega
       have hK3:¬(j:Int)≤(a:Int):=by omega
       have hK4:¬(a:Int) < 0:=by omega
       have HGO0:Hid (Dl XS DD (Bo Az.syms l a 0) ([],false)=some (defs,u)):=Aa (by rw[Eb];exact HGO.out);have hbd:=HBD.out a o ho;generalize hyn:o.syms.length=yn at*;have HYN:=Aa hyn;clear ho hyn HGO;go_wp2_with fail
       go_loopw [8,10] (fun r8 r10 wr=>∃(b:Nat)(u:Bool)(defs:List Bb)(pF:Option Addr)(cF:Nat),b≤yn∧r10= .int .i64 (b:Int)∧r8= .bool u∧Dl XS DD (Bo Az.syms l a b) ([],false)=some (defs,u)∧
        wr.heap[gb]?=some (.cells #[Cb,Cb] 54 (0,0))∧wr.heap[gb+1]?=some (.cells #[.slice pd j cd,.slice pF defs.length cF] 54 (0,0))∧IsL 3 Dg wr (.slice pF defs.length cF) defs∧FrT gb [54] wo wr∧Below gb w wr) (fun _ r10 _=>yn - (intOf r10).toNat)
       case atStart=>exact⟨0,u,defs,pF,cF,Ak _,rfl,rfl,HGO0.out,hR3,hT3,HD3.out,hf3,hb3⟩
       case round=>
        obtain⟨b,u,defs,pF,cF,hbn,rfl,rfl,hgo,hR4,hT4,hD4,hf4,hb4⟩:=hrel;have HGO:=Aa hgo;have HD4:=Aa hD4;clear hR3 hT3 HD3 hf3 hb3 HGO0 hgo hD4;obtain⟨bo,oo,p0,p1,p2,p4,c0,c1,c2,c4,hpe,_,s1,_,_,_,_,hsy,_⟩:=Du (HH.out wr (by first|exact hb4|(rw[HGB.out];exact hb4))) HO.out;subst hpe;rw[HYN.out]at s1;by_cases hlt4:b < yn
        ·obtain⟨bs,os,x,hpe,hx,⟨f0,_⟩,⟨f1,_⟩,⟨f2,_⟩,⟨f3,_⟩,⟨f4,_⟩,⟨f5,_⟩⟩:=hsy.at_ (i:=b) (by rw[HYN.out];exact hlt4);subst hpe;have HX:=Aa hx;have hstep:=HSTEP.out a b o x HO.out hx;rw[HGO.out,Option.bind_some]at hstep;have HST:=Aa hstep;have hK5:(b:Int) < (yn:Int):=by omega
         have hK6:(0:Int)≤(b:Int):=by omega
         have hK7:¬(yn:Int)≤(b:Int):=by omega
         have hRs4:gb < wr.heap.size:=(Ac.1 hR4).1;have hTs4:gb+1 < wr.heap.size:=(Ac.1 hT4).1;clear hsy hx hstep;go_upto_region 22 with fail
         have hb5:Below wr.heap.size wr (wr.alloc (.cells #[.string x.name,.int .i64 x.bind,.int .i64 x.type,.int .i64 x.sec,.int .i64 x.value,.int .i64 x.size] 98)):=(Ag _ wr).alloc (Af _) _;obtain⟨x0,x1,x2,x3,x4,x5⟩:=Ky _ _ _ _ _ _ _ _ _ (Ah wr (.cells #[.string x.name,.int .i64 x.bind,.int .i64 x.type,.int .i64 x.sec,.int .i64 x.value,.int .i64 x.size] 98));have hf5:=hf4.trans (FrT.of_below hb5);have hbw5:=hb4.trans (hb5.mono (by omega));have hR5:=(hb5.block gb hRs4).trans hR4;have hT5:=(hb5.block (gb+1) hTs4).trans hT4;have hD5:=HD4.out.below Dg.keeps hb5;generalize wr.alloc (.cells #[.string x.name,.int .i64 x.bind,.int .i64 x.type,.int .i64 x.sec,.int .i64 x.value,.int .i64 x.size] 98)=w5 at*;generalize wr.heap.size=g5 at*;have HF5:=Aa hf5;have HBW5:=Aa hbw5;have HR5:=Aa hR5;have HT5:=Aa hT5;have HD5:=Aa hD5;have HNB0:Hid (defs.length≤100000):=Aa (HLEN2.out a b o HO.out (defs,u) HGO.out);clear hb5 hf5 hbw5 hR5 hT5 hD5 hf4 hb4 hR4 hT4 HD4 HGO f0 f1 f2 f3 f4 f5 x2 x3 x4 x5 s1;obtain⟨q0,hq0⟩:∃q0,q0=(x.bind==0):=⟨_,rfl⟩
         have hq0':(x.bind==0)=q0:=hq0.symm;clear hq0;cases q0 with
         |true=>
          have hE:Hid (Dl XS DD (Bo Az.syms l a (b+1)) ([],false)=some (defs,u)):=Aa (by rw[HST.out];exact Jdn hq0');go_wp2_with fail
          go_roundw
          case rel=>exact⟨b+1,u,defs,pF,cF,hlt4,by go_num,rfl,hE.out,HR5.out,HT5.out,HD5.out,HF5.out,HBW5.out⟩
          case measure=>simp[intOf];omega
         |false=>
          have hfst:=HFI.out w5 HBW5.out (HDOK.out _ HF5.out) (.slice pF defs.length cF) x.name 1;have HFIX:=Aa hfst;obtain⟨⟨t0,t1⟩,z0,z1⟩:=Bz _ _ _ _ _ HT5.out;clear hfst;unfold Ss at HFIX;obtain⟨d1,hd1⟩:∃d,d=hitD x.name (hitsIn XS DD x.name 1):=⟨_,rfl⟩
          obtain⟨n1,hn1⟩:∃n,n=(hitsIn XS DD x.name 1).length:=⟨_,rfl⟩
          rw[←hd1,←hn1]at HFIX;have HN1:=Aa hn1;clear hd1 hn1;go_upto_region 24 with(first|(go_at_call 57;refine HFIX.out.mono ?_;rintro e w6 ⟨rfl,hb6⟩)|fail)
          have hs5:gb+1 < w5.heap.size:=(Ac.1 HT5.out).1;have hb7:Below w5.heap.size w5 (w6.alloc (.cells #[.string d1.name,.int .i64 (d1.obj:Int),.int .i64 (d1.sym:Int)] 63)):=hb6.alloc hb6.size _;have hf7:=HF5.out.trans (FrT.of_below hb7);have hbw7:=HBW5.out.trans (hb7.mono (by omega));have hR7:=(hb7.block gb (by omega)).trans HR5.out;have hT7:=(hb7.block (gb+1) hs5).trans HT5.out;have hD7:=HD5.out.below Dg.keeps hb7;have x07:=Ax hb7 x0;have x17:=Ax hb7 x1;generalize w6.alloc (.cells #[.string d1.name,.int .i64 (d1.obj:Int),.int .i64 (d1.sym:Int)] 63)=w7 at*;generalize w6.heap.size=g7 at*;have HF7:=Aa hf7;have HBW7:=Aa hbw7;have HR7:=Aa hR7;have HT7:=Aa hT7;have HD7:=Aa hD7;clear hb6 hb7 hf7 hbw7 hR7 hT7 hD7 x0 x1 t0 t1 z0 z1 hs5 HF5 HBW5 HR5 HT5 HD5 HFIX;have hRs7:gb < w7.heap.size:=(Ac.1 HR7.out).1;have hTs7:gb+1 < w7.heap.size:=(Ac.1 HT7.out).1;by_cases h1:1 < n1
          ·have hJ1:(1:Int) < (n1:Int):=by omega
           have hE:Hid (Dl XS DD XS ([],false)=none):=Aa (HPRE.out a (b+1) o HO.out (by rw[HST.out];exact Jgf hq0' (by rw[HN1.out]at h1;exact h1)));obtain⟨⟨r0,r1⟩,r2,r3⟩:=Bz _ _ _ _ _ HR7.out;have hst:=Lw Cb Cb (Af gb) HR7.out;have HST2:=Aa hst;clear hst;go_wp2_with fail
           exact bodyPost_ret (Lp rfl _ _ _ _ _ _ (by rfl) (by rfl) HST2.out.1) rfl (HTN.out _ 3 Cb Cb (.inl ⟨hE.out,rfl,rfl,rfl⟩) (HBW7.out.trans (HST2.out.2.below (Ar hRs7))))
          have hJ1:¬(1:Int) < (n1:Int):=by omega
          have hone:Dl XS DD (Bo Az.syms l a (b+1)) ([],false)=bif (findIn XS DD x.name).isSome then some (Fs defs (Kj XS DD x.name),u)else some (defs,u || x.bind==1):=by
           rw[HST.out];exact Jfj (x:=(a,b,x)) hq0' (by rw[HN1.out]at h1;exact h1)
          have hfnd:=HFD.out w7 HBW7.out (HDOK.out _ HF7.out) (.slice pF defs.length cF) x.name;obtain⟨d2,hd2⟩:∃d,d=Kj XS DD x.name:=⟨_,rfl⟩
          obtain⟨fs,hfs⟩:∃s,s=(findIn XS DD x.name).isSome:=⟨_,rfl⟩
          rw[←hd2,←hfs]at hfnd hone;have HFND:=Aa hfnd;have HONE:=Aa hone;obtain⟨⟨t0,t1⟩,z0,z1⟩:=Bz _ _ _ _ _ HT7.out;clear hfnd hone hd2 hfs h1 HN1 HST;go_upto_region 27 with(first|(go_at_call 24;refine HFND.out.mono ?_;rintro e w8 ⟨rfl,hb8⟩)|fail)
          have hb9:Below w7.heap.size w7 (w8.alloc (.cells #[.string d2.name,.int .i64 (d2.obj:Int),.int .i64 (d2.sym:Int)] 63)):=hb8.alloc hb8.size _;have hg9:=Ah w8 (.cells #[.string d2.name,.int .i64 (d2.obj:Int),.int .i64 (d2.sym:Int)] 63);have hf9:=HF7.out.trans (FrT.of_below hb9);have hbw9:=HBW7.out.trans (hb9.mono (by omega));have hR9:=(hb9.block gb (by omega)).trans HR7.out;have hT9:=(hb9.block (gb+1) hTs7).trans HT7.out;have hD9:=HD7.out.below Dg.keeps hb9;have x09:=Ax hb9 x07;have x19:=Ax hb9 x17;generalize w8.alloc (.cells #[.string d2.name,.int .i64 (d2.obj:Int),.int .i64 (d2.sym:Int)] 63)=w9 at*;generalize w8.heap.size=g9 at*;have HF9:=Aa hf9;have HBW9:=Aa hbw9;have HR9:=Aa hR9;have HT9:=Aa hT9;have HD9:=Aa hD9;clear hb8 hb9 hf9 hbw9 hR9 hT9 hD9 x07 x17 t0 t1 z0 z1 hRs7 hTs7 HF7 HBW7 HR7 HT7 HD7 HFND;have hRs9:gb < w9.heap.size:=(Ac.1 HR9.out).1;have hTs9:gb+1 < w9.heap.size:=(Ac.1 HT9.out).1;cases fs with
          |true=>
           have hE:Hid (Dl XS DD (Bo Az.syms l a (b+1)) ([],false)=some (Fs defs d2,u)):=Aa (by rw[HONE.out];rfl);have hput:Calls Tryz.prog 58 #[.slice pF defs.length cF,.agg #[.string d2.name,.int .i64 (d2.obj:Int),.int .i64 (d2.sym:Int)]] w9 fun e w'=>∃q m c',e= .returned (.slice q m c')∧IsL 3 Dg w' (.slice q m c') (Fs defs d2)∧m=(Fs defs d2).length∧Below w9.heap.size w9 w':=by
            obtain⟨p',c',e,i1,i2,i3,i4⟩:=HD9.out;cases e;exact Jmm pF defs.length cF defs d2 w9 i4 rfl i1 i2 i3 HNB0.out
           have HPUT:=Aa hput;obtain⟨⟨t0,t1⟩,z0,z1⟩:=Bz _ _ _ _ _ HT9.out;obtain⟨⟨g0,g1,g2⟩,g3,g4,g5'⟩:=Bj _ _ _ _ _ _ hg9;clear hput HONE x09 hg9;go_upto_region 28 with fail
           go_upto_region 29 with
            (first
             |(go_at_call 58
               refine HPUT.out.mono ?_;rintro e wA ⟨q,m,c',rfl,hDA,hm,hbA⟩;have hTA:=(hbA.block (gb+1) hTs9).trans HT9.out;have hRA:=(hbA.block gb hRs9).trans HR9.out;have hsA:gb+1 < wA.heap.size:=(Ac.1 hTA).1
               obtain⟨⟨y0,y1⟩,y2,y3⟩:=Bz _ _ _ _ _ hTA)
             |fail)
           all_goals
            subst hm;have hset:=An wA (gb+1) 1 _ _ (.slice q (Fs defs d2).length c') hTA;have hfrA:FrT gb [54] wA (wA.setCell ⟨gb+1,1,none⟩ (.slice q (Fs defs d2).length c')):=FrT.set hTA (by simp) (by omega) _;have hRB:(wA.setCell ⟨gb+1,1,none⟩ (.slice q (Fs defs d2).length c')).heap[gb]?=some (.cells #[Cb,Cb] 54 (0,0)):=by
             rw[heap_setCell_other _ _ _ _ (by simp)];exact hRA
            have hDB:IsL 3 Dg (wA.setCell ⟨gb+1,1,none⟩ (.slice q (Fs defs d2).length c')) (.slice q (Fs defs d2).length c') (Fs defs d2):=Wy hTA hDA;have hfB:=(HF9.out.trans (FrT.of_below hbA)).trans hfrA;have hbB:Below gb w (wA.setCell ⟨gb+1,1,none⟩ (.slice q (Fs defs d2).length c')):=(HBW9.out.trans (hbA.mono (by omega))).trans (hfrA.below (by omega));have HSET:=Aa hset;have HRB:=Aa hRB;have HDB:=Aa hDB;have HFB:=Aa hfB;have HBB:=Aa hbB;clear hset hfrA hRB hDB hfB hbB hDA hbA hTA hRA;cases u with
            |true=>
             go_wp2_with fail
             go_roundw
             case rel=>exact⟨b+1,true,Fs defs d2,q,c',hlt4,by go_num,rfl,hE.out,HRB.out,HSET.out,HDB.out,HFB.out,HBB.out⟩
             case measure=>simp[intOf];omega
            |false=>
             go_wp2_with fail
             go_roundw
             case rel=>exact⟨b+1,false,Fs defs d2,q,c',hlt4,by go_num,rfl,hE.out,HRB.out,HSET.out,HDB.out,HFB.out,HBB.out⟩
             case measure=>simp[intOf];omega
          |false=>
           clear hg9 x09;obtain⟨q1,hq1⟩:∃q1,q1=(x.bind==1):=⟨_,rfl⟩
           have hE:Hid (Dl XS DD (Bo Az.syms l a (b+1)) ([],false)=some (defs,u || q1)):=Aa (by rw[HONE.out,hq1];rfl);have hq1':(x.bind==1)=q1:=hq1.symm;clear hq1 HONE;cases u with
           |true=>
            go_wp2_with fail
            go_roundw
            case rel=>exact⟨b+1,true,defs,pF,cF,hlt4,by go_num,rfl,hE.out,HR9.out,HT9.out,HD9.out,HF9.out,HBW9.out⟩
            case measure=>simp[intOf];omega
           |false=>
            cases q1 with
            |true=>
             go_wp2_with fail
             go_roundw
             case rel=>exact⟨b+1,true,defs,pF,cF,hlt4,by go_num,rfl,hE.out,HR9.out,HT9.out,HD9.out,HF9.out,HBW9.out⟩
             case measure=>simp[intOf];omega
            |false=>
             go_wp2_with fail
             go_roundw
             case rel=>exact⟨b+1,false,defs,pF,cF,hlt4,by go_num,rfl,hE.out,HR9.out,HT9.out,HD9.out,HF9.out,HBW9.out⟩
             case measure=>simp[intOf];omega
        ·obtain rfl:b=yn:=by omega
         have hK5:¬(b:Int) < (b:Int):=by omega
         have hE:Hid (Dl XS DD (Bc Az.syms l (a+1)) ([],false)=some (defs,u)):=Aa (by rw[←Ia (k:=b) HO.out (by rw[HYN.out];exact Af _)];exact HGO.out);clear hsy;go_wp2_with fail
         go_roundw
         case rel=>exact⟨a+1,u,defs,pF,cF,hlt3,by go_num,rfl,hE.out,hR4,hT4,HD4.out,hf4,hb4⟩
         case measure=>simp[intOf];omega
      ·obtain rfl:a=j:=by omega
       have hK1:¬(a:Int) < (a:Int):=by omega
       have hE:Hid (Dl XS DD XS ([],false)=some (defs,u)):=Aa (by have h:=HGO.out;rw[HXS.out]at h;exact h);have hRs:gb < wr.heap.size:=(Ac.1 hR3).1;obtain⟨⟨t0,t1⟩,z0,z1⟩:=Bz _ _ _ _ _ hT3;obtain⟨⟨r0,r1⟩,r2,r3⟩:=Bz _ _ _ _ _ hR3;cases u with
       |true=>
        have hst:=Lw Cb Cb (Af gb) hR3;have HST2:=Aa hst;clear hst;go_wp2_with fail
        exact bodyPost_ret (Lp rfl _ _ _ _ _ _ (by rfl) (by rfl) HST2.out.1) rfl (HTN.out _ 4 Cb Cb (.inr ⟨defs,true,hE.out,.inl ⟨rfl,rfl,rfl,rfl⟩⟩) (hb3.trans (HST2.out.2.below (Ar hRs))))
       |false=>
        have hst:=Lw (.slice pd a cd) (.slice pF defs.length cF) (Af gb) hR3;have HST2:=Aa hst;have HDD:=Aa (Jkz (p1:=pd) (n1:=a) (c1:=cd) (q1:=pF) (m1:=defs.length) (d1:=cF) hR3 HD3.out);clear hst;go_wp2_with fail
        exact bodyPost_ret (Lp rfl _ _ _ _ _ _ (by rfl) (by rfl) HST2.out.1) rfl (HTN.out _ 0 _ _ (.inr ⟨defs,false,hE.out,.inr ⟨rfl,rfl,HDIS.out _ (hf3.trans (HST2.out.2.mono (by simp))),HDD.out⟩⟩) (hb3.trans (HST2.out.2.below (Ar hRs))))
theorem Jke(a b:Int)(w:World):(binOp .eql 33 (.iface 36 (.int .i64 a)) (.iface 36 (.int .i64 b))).run Tryz.prog w= .ok (.bool (a==b)) w:=
 Lib.run_eql_iface_int w a b Tryz.underlying33 (by kernel_rfl) Tryz.underlying36
theorem Jon(n:Int)(hn:0≤n∧n≤8)(w:World):Calls Tryz.prog 21 #[Fk n] w fun e w'=>e= .returned (.int .i64 n)∧Below w.heap.size w w':=by
 have hb0:Below w.heap.size w w:=Ag _ w;by_cases h0:n=0
 ·subst h0;rw[show Fk 0= .nilIface from rfl];go_enter Tryz.func21,Tryz.ntmps21;go_wp2_with fail
  go_ret;exact⟨rfl,hb0⟩
 ·rw[show Fk n= .iface 36 (.int .i64 n) from if_neg h0];go_enter Tryz.func21,Tryz.ntmps21;go_wp2_with fail
  go_loopw [3] (fun r3 wr=>∃c:Int,1≤c∧c≤n∧r3= .int .i64 c∧wr=w) (fun r3 _=>9 - (intOf r3).toNat)
  case atStart=>exact⟨1,by omega,by omega,rfl,rfl⟩
  case round=>
   obtain⟨c,h1,h2,rfl,rfl⟩:=hrel;have h8:c≤8:=by omega
   by_cases he:c=n
   ·subst he;have hcc:=Aa (show(c==c)=true by simp);go_wp2_with fail
    try rw[Jke]
    try rw[hcc.out]
    go_wp2_with fail
    go_ret;exact⟨rfl,hb0⟩
   ·have hne:=Aa (show(n==c)=false from beq_eq_false_iff_ne.2 fun h=>he h.symm);have hlt:c < n:=by omega
    go_wp2_with fail
    try rw[Jke]
    try rw[hne.out]
    go_wp2_with fail
    go_roundw
    case rel=>exact⟨c+1,by omega,by omega,by go_num,by trivial⟩
    case measure=>simp[intOf];omega
end Go.Proofs.YteopgmieindojaaGreat
