/- Parts of a proof. -/
import Derived.Test.YteopgmieindojaaGreatGX09
import Derived.Test.YteopgmieindojaaGreatGX08
set_option maxRecDepth 1000000
set_option maxHeartbeats 8000000
namespace Go.Proofs.YteopgmieindojaaGreat
open Go.RowKit
def ENC(w:World)(b o:Nat)(x:Ce):Prop:=∃(p9 p10:Option Addr)(n9 c9 n10 c10:Nat),w.cell? ⟨b,o,none⟩=some (.int .i64 x.obj)∧w.cell? ⟨b,o+1,none⟩=some (.int .i64 x.sec)∧w.cell? ⟨b,o+2,none⟩=some (.int .i64 x.pos)∧w.cell? ⟨b,o+3,none⟩=some (.string x.name)∧
 w.cell? ⟨b,o+4,none⟩=some (.int .i64 x.type)∧w.cell? ⟨b,o+5,none⟩=some (.int .i64 x.flags)∧w.cell? ⟨b,o+6,none⟩=some (.int .i64 x.align)∧w.cell? ⟨b,o+7,none⟩=some (.int .i64 x.ent)∧w.cell? ⟨b,o+8,none⟩=some (.int .i64 x.size)∧
 w.cell? ⟨b,o+9,none⟩=some (.slice p9 n9 c9)∧w.cell? ⟨b,o+10,none⟩=some (.slice p10 n10 c10)∧w.cell? ⟨b,o+11,none⟩=some (.bool x.unique)∧w.cell? ⟨b,o+12,none⟩=some (.int .i64 x.group)∧w.cell? ⟨b,o+13,none⟩=some (.int .i64 x.link)
theorem ENC.keeps:Hb ENC:=fun _ _ _ _ _ hb ⟨p9,p10,n9,c9,n10,c10,h0,h1,h2,h3,h4,h5,h6,h7,h8,h9,h10,h11,h12,h13⟩=>
 ⟨p9,p10,n9,c9,n10,c10,Cf hb h0,Cf hb h1,Cf hb h2,Cf hb h3,Cf hb h4,Cf hb h5,Cf hb h6,Cf hb h7,Cf hb h8,Cf hb h9,Cf hb h10,Cf hb h11,Cf hb h12,Cf hb h13⟩
def Xv(all:List Ce)(i:Nat):Int:=match all[i]? with|some x=>x.pos|none=>0
def Qk(all:List Ce)(p:Cq):Int × Int:=if inN all p < 0 then(-1,0)else(inN all p,p.at_ - Xv all (inN all p).toNat)
theorem Uw{all:List Ce}{p:Cq}:∀n,0≤inNTo all p n→∃(i:Nat)(x:Ce),inNTo all p n=(i:Int)∧i < n∧all[i]?=some x∧hitN all p i x=true
 |0,h=>by simp[inNTo]at h
 |n+1,h=>by
  unfold inNTo at h⊢;cases hq:all[n]? with
  |none=>
   rw[hq]at h;obtain⟨i,x,h1,h2,h3⟩:=Uw n h;exact⟨i,x,h1,by omega,h3⟩
  |some y=>
   rw[hq]at h;simp only at h⊢;cases hh:hitN all p n y with
   |true=>exact⟨n,y,by simp,by omega,hq,hh⟩
   |false=>
    rw[hh]at h;obtain⟨i,x,h1,h2,h3⟩:=Uw n h;exact⟨i,x,h1,by omega,h3⟩
theorem Jdy{all:List Ce}{p:Cq}:∀n,-1≤inNTo all p n∧inNTo all p n < (n:Int)
 |0=>by simp[inNTo]
 |n+1=>by
  have ih:=Jdy (all:=all) (p:=p) n;unfold inNTo;cases all[n]? with
  |none=>simp only;omega
  |some y=>simp only;cases hitN all p n y<;>simp only[cond_true,cond_false]<;>omega
theorem Jja{all:List Ce}{p:Cq}{n:Nat}{x:Ce}(h:all[n]?=some x):inNTo all p (n+1)=bif hitN all p n x then(n:Int)else inNTo all p n:=by
 conv=>lhs;unfold inNTo
 rw[h]
theorem Jpd{all:List Ce}{p:Cq}{i:Nat}{x:Ce}(h:hitN all p i x=true):x.pos≤p.at_:=by
 unfold hitN at h;cases hq:decide (p.at_ < x.pos)with
 |true=>rw[hq]at h;simp at h
 |false=>have:=of_decide_eq_false hq;omega
theorem Jg8(pp:Option Addr)(c:Nat)(all:List Ce)(P:Cq)(w:World)(h:Bg 14 ENC w pp all)(hn:all.length≤1000000000)(hf:∀x∈all,0≤x.pos∧0≤x.size∧x.pos+x.size≤2147483647)(hP:Bn P.at_):
 Calls Tryz.prog 74 #[.slice pp all.length c,.agg #[.int .i64 P.obj,.int .i64 P.sec,.int .i64 P.at_]] w fun e w'=>e= .returned (.tuple #[.int .i64 (Qk all P).1,.int .i64 (Qk all P).2])∧Below w.heap.size w w':=by
 have ha:Below w.heap.size w (w.alloc (.cells #[.int .i64 P.obj,.int .i64 P.sec,.int .i64 P.at_] 70)):=(Ag _ w).alloc (Af _) _;have hA0:(w.alloc (.cells #[.int .i64 P.obj,.int .i64 P.sec,.int .i64 P.at_] 70)).heap[w.heap.size]?=some (.cells #[.int .i64 P.obj,.int .i64 P.sec,.int .i64 P.at_] 70 (0,0)):=Ah w _;have HH:=Aa (h.below ENC.keeps ha);have HF:=Aa hf;obtain⟨r1,r2,hr⟩:∃r1 r2,Qk all P=(r1,r2):=⟨_,_,rfl⟩
 rw[hr];have HR:=Aa hr;generalize hgb:w.heap.size=gb at*;have HGB:=Aa hgb;have HA:=Aa ha;generalize hln:all.length=ln at*;have HLN:=Aa hln;obtain⟨P0,P1,P2⟩:=P;unfold Bn at hP;simp only at hP;clear h hf hr hgb ha hln;go_enter Tryz.func74,Tryz.ntmps74;go_upto_region 1 with fail
 generalize w.alloc (.cells #[.int .i64 P0,.int .i64 P1,.int .i64 P2] 70)=w1 at*;rw[HGB.out];obtain⟨⟨a0,a1,a2⟩,_⟩:=Bj _ _ _ _ _ _ hA0;clear hA0;go_wp2_with fail
 go_loopw [6,7,8,9] (fun r6 r7 _ _ wr=>∃i:Nat,r7= .int .i64 (i:Int)∧i≤ln∧r6= .int .i64 (inNTo all ⟨P0,P1,P2⟩ i)∧Below w1.heap.size w1 wr) (fun _ r7 _ _ _=>ln - (intOf r7).toNat)
 case atStart=>exact⟨0,rfl,Ak _,rfl,Ag _ _⟩
 case round=>
  obtain⟨i,rfl,hi,rfl,hb⟩:=hrel;have b0:=Ax hb a0;have b1:=Ax hb a1;have b2:=Ax hb a2;by_cases hlt:i < ln
  ·obtain⟨b,off,x,hpe,hx,hE⟩:=(HH.out.below ENC.keeps hb).at_ (i:=i) (by rw[HLN.out];exact hlt);obtain⟨p9,p10,n9,c9,n10,c10,e0,e1,e2,e3,e4,e5,e6,e7,e8,e9,e10,e11,e12,e13⟩:=hE;have hxf:=HF.out x (Ad hx);have HX:=Aa hx;have HSTEP:=Aa (Jja (p:=⟨P0,P1,P2⟩) hx);have HNEXT:=Aa fun W (hW:Below w1.heap.size w1 W)(hl:i+1 < ln)=>(HH.out.below ENC.keeps hW).at_ (i:=i+1) (by rw[HLN.out];exact hl);subst hpe;have j1:(i:Int) < (ln:Int):=by omega
   have j0:(0:Int)≤(i:Int):=by omega
   have HB:=Aa hb;clear hx a0 a1 a2;go_upto_region 6 with fail
   have hN:=Ah wr (.cells #[.int .i64 x.obj,.int .i64 x.sec,.int .i64 x.pos,.string x.name,.int .i64 x.type,.int .i64 x.flags,.int .i64 x.align,.int .i64 x.ent,.int .i64 x.size,.slice p9 n9 c9,.slice p10 n10 c10,.bool x.unique,.int .i64 x.group,.int .i64 x.link] 86);have hbN:Below wr.heap.size wr (wr.alloc (.cells #[.int .i64 x.obj,.int .i64 x.sec,.int .i64 x.pos,.string x.name,.int .i64 x.type,.int .i64 x.flags,.int .i64 x.align,.int .i64 x.ent,.int .i64 x.size,.slice p9 n9 c9,.slice p10 n10 c10,.bool x.unique,.int .i64 x.group,.int .i64 x.link] 86)):=(Ag _ wr).alloc (Af _) _;generalize wr.alloc (.cells #[.int .i64 x.obj,.int .i64 x.sec,.int .i64 x.pos,.string x.name,.int .i64 x.type,.int .i64 x.flags,.int .i64 x.align,.int .i64 x.ent,.int .i64 x.size,.slice p9 n9 c9,.slice p10 n10 c10,.bool x.unique,.int .i64 x.group,.int .i64 x.link] 86)=wn at*;have b0':=Ax hbN b0;have b1':=Ax hbN b1;have b2':=Ax hbN b2;have hbn:Below w1.heap.size w1 wn:=hb.trans (hbN.mono hb.size);have HBN:=Aa hbn;generalize wr.heap.size=gn at*;have hc:∀j v,(#[.int .i64 x.obj,.int .i64 x.sec,.int .i64 x.pos,.string x.name,.int .i64 x.type,.int .i64 x.flags,.int .i64 x.align,.int .i64 x.ent,.int .i64 x.size,.slice p9 n9 c9,.slice p10 n10 c10,.bool x.unique,.int .i64 x.group,.int .i64 x.link]:Array Value)[j]?=some v→wn.cell? ⟨gn,j,none⟩=some v:=fun j v hv=>(Am wn gn j _ _ (0,0) hN).trans hv;have n0:=hc 0 _ rfl;have n1:=hc 1 _ rfl;have n2:=hc 2 _ rfl;have n8:=hc 8 _ rfl;obtain⟨x0,hx0⟩:∃x0,x0=x.obj:=⟨_,rfl⟩
   obtain⟨x1,hx1⟩:∃x1,x1=x.sec:=⟨_,rfl⟩
   obtain⟨x2,hx2⟩:∃x2,x2=x.pos:=⟨_,rfl⟩
   obtain⟨x8,hx8⟩:∃x8,x8=x.size:=⟨_,rfl⟩
   have HIT:Hid (hitN all ⟨P0,P1,P2⟩ i x=bif (P1==0) || (x0 != P0) || (x1 != P1) || decide (P2 < x2)then false else decide (P2 < x2+x8) || (lastN all i x&&(P2==x2+x8))):=Aa (by subst hx0 hx1 hx2 hx8;rfl);rw[←hx0]at n0;rw[←hx1]at n1;rw[←hx2]at n2 hxf;rw[←hx8]at n8 hxf;have HX0:=Aa hx0;have HX1:=Aa hx1;have k1:IntKind.i64.wrap (x2+x8)=x2+x8:=Al _ (by omega);clear hx0 hx1 hx2 hx8 hc hN hbN hbn e0 e1 e2 e3 e4 e5 e6 e7 e8 e9 e10 e11 e12 e13 b0 b1 b2 hb;obtain⟨sk,hsk⟩:∃sk,sk=((P1==0) || (x0 != P0) || (x1 != P1) || decide (P2 < x2)):=⟨_,rfl⟩
   rw[←hsk]at HIT;have HSK:=Aa hsk;clear hsk;go_cut [43] (fun s43 wx=>s43= .bool sk∧wn=wx)
   case first=>
    cases h1:(P1==0)with
    |true=>
     obtain rfl:sk=true:=by rw[HSK.out,h1];rfl
     go_wp2_with fail
     go_meet;exact⟨rfl,rfl⟩
    |false=>
    cases h2:(x0 != P0)with
    |true=>
     obtain rfl:sk=true:=by rw[HSK.out,h1,h2];rfl
     go_wp2_with fail
     go_meet;exact⟨rfl,rfl⟩
    |false=>
    cases h3:(x1 != P1)with
    |true=>
     obtain rfl:sk=true:=by rw[HSK.out,h1,h2,h3];rfl
     go_wp2_with fail
     go_meet;exact⟨rfl,rfl⟩
    |false=>
     obtain⟨d,hd⟩:∃d,d=decide (P2 < x2):=⟨_,rfl⟩
     obtain rfl:sk=d:=by rw[HSK.out,h1,h2,h3,hd];rfl
     have hd2:=hd.symm;clear hd;go_wp2_with fail
     go_meet;exact⟨rfl,rfl⟩
   case rest=>
    obtain⟨rfl,rfl⟩:=hcut;cases sk with
    |true=>
     have HS:Hid (inNTo all ⟨P0,P1,P2⟩ (i+1)=inNTo all ⟨P0,P1,P2⟩ i):=Aa (by rw[HSTEP.out,HIT.out];rfl);go_wp2_with fail
     go_roundw
     case rel=>exact⟨i+1,by go_num,hlt,by rw[HS.out],HBN.out⟩
     case measure=>simp[intOf];omega
    |false=>
     have HIT2:Hid (hitN all ⟨P0,P1,P2⟩ i x=(decide (P2 < x2+x8) || (lastN all i x&&(P2==x2+x8)))):=Aa HIT.out;go_upto_region 7 with fail
     go_cut [9] (fun s9 wx=>s9= .bool (lastN all i x)∧Below wn.heap.size wn wx)
     case first=>
      cases hl:((i:Int)+1==(ln:Int))with
      |true=>
       have hq:Hid (lastN all i x=true):=Aa (by
        have:i+1=ln:=by have:=eq_of_beq hl;omega
        unfold lastN
        rw[List.getElem?_eq_none (by rw[HLN.out];omega)])
       have k2:IntKind.i64.wrap ((i:Int)+1)=(i:Int)+1:=Al _ (by omega);go_quiet (fail);go_wp2_with fail
       go_meet;exact⟨by rw[hq.out],Bq (Ag _ _) _⟩
      |false=>
       have hl2:i+1 < ln:=by
        have:¬(i:Int)+1=(ln:Int):=by simpa using hl
        omega
       obtain⟨b',off',y,hpe,hy,⟨_,_,_,_,_,_,f0,f1,_⟩⟩:=HNEXT.out wn HBN.out hl2;cases hpe;have HL:Hid (lastN all i x=(y.obj != x0 || y.sec != x1)):=Aa (by unfold lastN;rw[hy,HX0.out,HX1.out]);generalize y.obj=y0 at*;generalize y.sec=y1 at*;have k2:IntKind.i64.wrap ((i:Int)+1)=(i:Int)+1:=Al _ (by omega);have k3:IntKind.i64.wrap ((ln:Int) - 1)=(ln:Int) - 1:=Al _ (by omega);have k4:(i:Int)+1≤(ln:Int) - 1:=by omega
       have k5:(0:Int)≤(i:Int)+1:=by omega
       have k6:(i:Int)+1 < (ln:Int):=by omega
       have k7:((i:Int)+1).toNat=i+1:=by omega
       have k8:min ((i:Int)+1) ((ln:Int) - 1)=(i:Int)+1:=by omega
       clear hy;cases h1:(y0 != x0)with
       |true=>
        have hq:Hid (lastN all i x=true):=Aa (by rw[HL.out,h1];rfl);go_quiet (fail);go_wp2_with fail
        go_meet;exact⟨by rw[hq.out],Bq (Ag _ _) _⟩
       |false=>
        obtain⟨d,hd⟩:∃d,d=(y1 != x1):=⟨_,rfl⟩
        have hq:Hid (lastN all i x=d):=Aa (by rw[HL.out,h1,hd];rfl);have hd2:=hd.symm;clear hd;go_quiet (fail);go_wp2_with fail
        go_meet;exact⟨by rw[hq.out],Bq (Ag _ _) _⟩
     case rest=>
      obtain⟨rfl,hbq⟩:=hcut;generalize lastN all i x=lv at*;have n2':=Ax hbq n2;have n8':=Ax hbq n8;have b2q:=Ax hbq b2';have HBQ:=Aa (HBN.out.trans (hbq.mono HBN.out.size));obtain⟨hv,hhv⟩:∃hv,hv=(decide (P2 < x2+x8) || (lv&&(P2==x2+x8))):=⟨_,rfl⟩
      rw[←hhv]at HIT2;have HHV:=Aa hhv;clear hhv hbq n0 n1 n2 n8 b0' b1' b2' HNEXT;go_upto_region 8 with fail
      go_cut [99] (fun s99 wx=>s99= .bool hv∧wc=wx)
      case first=>
       by_cases h1:P2 < x2+x8
       ·obtain rfl:hv=true:=by rw[HHV.out,Aj h1];rfl
        go_wp2_with fail
        go_meet;exact⟨rfl,rfl⟩
       ·cases lv with
        |false=>
         obtain rfl:hv=false:=by rw[HHV.out,Ai h1];rfl
         go_wp2_with fail
         go_meet;exact⟨rfl,rfl⟩
        |true=>
         obtain⟨d,hd⟩:∃d,d=(P2==x2+x8):=⟨_,rfl⟩
         obtain rfl:hv=d:=by rw[HHV.out,Ai h1,hd];rfl
         have hd2:=hd.symm;clear hd;go_wp2_with fail
         go_meet;exact⟨rfl,rfl⟩
      case rest=>
       obtain⟨rfl,rfl⟩:=hcut;have HS:Hid (inNTo all ⟨P0,P1,P2⟩ (i+1)=bif hv then(i:Int)else inNTo all ⟨P0,P1,P2⟩ i):=Aa (by rw[HSTEP.out,HIT2.out]);clear n2' n8' b2q;cases hv with
       |true=>
        have HS2:Hid (inNTo all ⟨P0,P1,P2⟩ (i+1)=(i:Int)):=Aa HS.out;go_wp2_with fail
        go_roundw
        case rel=>exact⟨i+1,by go_num,hlt,by rw[HS2.out],HBQ.out⟩
        case measure=>simp[intOf];omega
       |false=>
        have HS2:Hid (inNTo all ⟨P0,P1,P2⟩ (i+1)=inNTo all ⟨P0,P1,P2⟩ i):=Aa HS.out;go_wp2_with fail
        go_roundw
        case rel=>exact⟨i+1,by go_num,hlt,by rw[HS2.out],HBQ.out⟩
        case measure=>simp[intOf];omega
  ·have HRES:Hid ((r1,r2)=Qk all ⟨P0,P1,P2⟩∧inN all ⟨P0,P1,P2⟩=inNTo all ⟨P0,P1,P2⟩ i):=Aa ⟨HR.out.symm,by unfold inN;rw[HLN.out,show i=ln by omega]⟩;have hlo:=Jdy (all:=all) (p:=⟨P0,P1,P2⟩) i;have hhit:=Uw (all:=all) (p:=⟨P0,P1,P2⟩) i;generalize inNTo all ⟨P0,P1,P2⟩ i=t at*;have j1:¬(i:Int) < (ln:Int):=by omega
   by_cases ht:t < 0
   ·obtain⟨rfl,rfl⟩:r1= -1∧r2=0:=by
     have h1:=HRES.out.1;unfold Qk at h1;rw[HRES.out.2,if_pos ht]at h1;exact Prod.mk.inj h1
    clear hhit;go_wp2_with fail
    go_ret2;exact⟨rfl,HA.out.trans (hb.mono (Ar (Ao w1 _ a0)))⟩
   ·obtain⟨k,x,rfl,hk,hx,hx2⟩:=hhit (by omega);obtain⟨b,off,x',hpe,hx',⟨_,_,_,_,_,_,_,_,f2,_⟩⟩:=(HH.out.below ENC.keeps hb).at_ (i:=k) (by rw[HLN.out];omega);obtain rfl:x'=x:=by rw[hx]at hx';cases hx';rfl
    subst hpe;obtain⟨rfl,rfl⟩:r1=(k:Int)∧r2=P2 - x'.pos:=by
     have h1:=HRES.out.1;unfold Qk at h1;rw[HRES.out.2,if_neg ht,Int.toNat_natCast,show Xv all k=x'.pos by unfold Xv;rw[hx]]at h1;exact Prod.mk.inj h1
    have hat:=Jpd hx2;simp only at hat;have hxf:=HF.out x' (Ad hx);have k1:IntKind.i64.wrap (P2 - x'.pos)=P2 - x'.pos:=Al _ (by omega);have k2:(0:Int)≤(k:Int):=by omega
    have k3:(k:Int) < (ln:Int):=by omega
    clear hx hx' hx2;go_upto_region 12 with fail
    go_quiet (fail);go_wp2_with fail
    go_ret2;exact⟨rfl,Bq (HA.out.trans (hb.mono (Ar (Ao w1 _ a0)))) _⟩
def Ob:Prop:=∀(pp:Option Addr)(c:Nat)(l:List PcD)(n at_:Int)(w:World),Bg 2 EPc w pp l→l.length≤c→c≤maxLen→(pp=none→c=0)→l.length≤16384→Pj l n→n≤2147483647→(∀p∈l,0≤p.at_∧0≤p.size∧p.at_+p.size≤n)→(l.length=1∨∀p∈l,1≤p.size)→
    -9223372036854775808≤at_→at_≤9223372036854775807→
    Calls Tryz.prog 166 #[.slice pp l.length c,.int .i64 at_] w fun e w'=>e= .returned (.int .i64 (inP l at_))∧Below w.heap.size w w'
theorem Jbe{s:Ca}(h:Mr s):∀p∈piecesOf s,p.bd:=fun p hp=>by
 have h1:=(Ey h).2.2.1 p hp;have h2:=h.1;unfold PcD.bd;omega
theorem Jo5{α:Type}{k:Nat}{E:World→Nat→Nat→α→Prop}{w:World}{v:Value}{l:List α}(h:IsL k E w v l):∃pp c,v= .slice pp l.length c∧l.length≤c∧c≤maxLen∧(pp=none→c=0)∧Bg k E w pp l:=h
end Go.Proofs.YteopgmieindojaaGreat
