/- Parts of a proof. -/
import Derived.Test.YteopgmieindojaaGreatGX05
import Derived.Test.YteopgmieindojaaGreatGX06
set_option maxRecDepth 1000000
set_option maxHeartbeats 8000000
namespace Go.Proofs.YteopgmieindojaaGreat
open Go.RowKit
def secSize(secs:List Ca)(sec:Int):Int:=match secs[(sec - 1).toNat]? with
 |some x=>x.size
 |none=>0
def sym0B(s:Ct):Bool:=s.name.toList.isEmpty&&(s.bind==0)&&(s.type==0)&&(s.sec==0)&&(s.value==0)&&(s.size==0)
def symNB(secs:List Ca)(before:Int)(s:Ct):Bool:=
 bif !mayB s.name.data.toList || decide (s.bind < 0) || decide (2 < s.bind) || decide (s.type < 0) || decide (3 < s.type) || decide (s.size < 0) || decide (2147483647 < s.size)then false else
 bif decide (s.sec < -1) || decide ((secs.length:Int) < s.sec) || decide (s.value < 0) || decide (2147483647 < s.value)then false else
 bif ((s.sec==0)&&decide (0 < s.value)) || (decide (0 < s.sec)&&decide (secSize secs s.sec < s.value))then false else
 bif s.bind==0 then(s.sec != 0)&&(before==0)else !s.name.toList.isEmpty
theorem Jfg(v0 v2 v4:Value)(sig:Bool)(p1:Option Addr)(c1:Nat)(syms:List Ct)(s:Ct)(w:World)(hs:Bg 6 Ie w p1 syms)(h0:syms[0]?=some s)(_hsm:syms.length≤maxLen):
 Calls Tryz.prog 77 #[Gq v0 (.slice p1 syms.length c1) v2 sig v4,.int .i64 0] w fun e w'=>e= .returned (.bool (sym0B s))∧Below w.heap.size w w':=by
 have hb1:Below w.heap.size w (w.alloc (.cells #[v0,.slice p1 syms.length c1,v2,.bool sig,v4] 27)):=(Ag _ w).alloc (Af _) _;have hbx:=hb1.alloc hb1.size (.cells #[.string s.name,.int .i64 s.bind,.int .i64 s.type,.int .i64 s.sec,.int .i64 s.value,.int .i64 s.size] 98);have hl0:0 < syms.length:=(Ab.1 h0).1;obtain⟨b,off,s',rfl,hs0,⟨⟨d0,_⟩,⟨d1,_⟩,⟨d2,_⟩,⟨d3,_⟩,⟨d4,_⟩,⟨d5,_⟩⟩⟩:=hs.at_ hl0;obtain rfl:s'=s:=by rw[h0]at hs0;cases hs0;rfl
 have f0:=Ax hb1 d0;have f1:=Ax hb1 d1;have f2:=Ax hb1 d2;have f3:=Ax hb1 d3;have f4:=Ax hb1 d4;have f5:=Ax hb1 d5;simp only[Nat.zero_mul,Nat.add_zero]at f0 f1 f2 f3 f4 f5;have hct:=Mu w #[v0,.slice (some ⟨b,off,none⟩) syms.length c1,v2,.bool sig,v4] #[.string s'.name,.int .i64 s'.bind,.int .i64 s'.type,.int .i64 s'.sec,.int .i64 s'.value,.int .i64 s'.size] 27 98;have g0:=hct.2 0;have g1:=hct.2 1;have g2:=hct.2 2;have g3:=hct.2 3;have g4:=hct.2 4;have g5:=hct.2 5;simp only[List.getElem?_toArray,List.getElem?_cons_succ,List.getElem?_cons_zero]at g0 g1 g2 g3 g4 g5;have HK:=Aa (sym0B.eq_1 s');generalize sym0B s'=res at*;generalize hm:syms.length=m at*;clear hct hs h0 hs0 d0 d1 d2 d3 d4 d5;go_enter Tryz.func77,Tryz.ntmps77;go_upto_region 3 with fail
 cases t1:s'.name.toList.isEmpty
 ·rw[t1]at HK;go_wp2_with fail
  go_ret;exact⟨by rw[HK.out];rfl,hbx⟩
 ·cases t2:(s'.bind==0)
  ·rw[t1,t2]at HK;go_wp2_with fail
   go_ret;exact⟨by rw[HK.out];rfl,hbx⟩
  ·cases t3:(s'.type==0)
   ·rw[t1,t2,t3]at HK;go_wp2_with fail
    go_ret;exact⟨by rw[HK.out];rfl,hbx⟩
   ·cases t4:(s'.sec==0)
    ·rw[t1,t2,t3,t4]at HK;go_wp2_with fail
     go_ret;exact⟨by rw[HK.out];rfl,hbx⟩
    ·cases t5:(s'.value==0)
     ·rw[t1,t2,t3,t4,t5]at HK;go_wp2_with fail
      go_ret;exact⟨by rw[HK.out];rfl,hbx⟩
     ·cases t6:(s'.size==0)
      ·rw[t1,t2,t3,t4,t5,t6]at HK;go_wp2_with fail
       go_ret;exact⟨by rw[HK.out];rfl,hbx⟩
      ·rw[t1,t2,t3,t4,t5,t6]at HK;go_wp2_with fail
       go_ret;exact⟨by rw[HK.out];rfl,hbx⟩
theorem Jfe(v2 v4:Value)(sig:Bool)(p0 p1:Option Addr)(c0 c1 k:Nat)(secs:List Ca)(syms:List Ct)(s pv:Ct)(w:World)(hq:Bg 9 Ev w p0 secs)(hs:Bg 6 Ie w p1 syms)(h1:syms[k+1]?=some s)(hk:syms[k]?=some pv)(hqm:secs.length≤maxLen)(hsm:syms.length≤maxLen):
 Calls Tryz.prog 77 #[Gq (.slice p0 secs.length c0) (.slice p1 syms.length c1) v2 sig v4,.int .i64 ((k:Int)+1)] w fun e w'=>e= .returned (.bool (symNB secs pv.bind s))∧Below w.heap.size w w':=by
 unfold maxLen at hsm hqm;have hb1:Below w.heap.size w (w.alloc (.cells #[.slice p0 secs.length c0,.slice p1 syms.length c1,v2,.bool sig,v4] 27)):=(Ag _ w).alloc (Af _) _;have hbx:=hb1.alloc hb1.size (.cells #[.string s.name,.int .i64 s.bind,.int .i64 s.type,.int .i64 s.sec,.int .i64 s.value,.int .i64 s.size] 98);have hl1:k+1 < syms.length:=(Ab.1 h1).1;obtain⟨b,off,s',rfl,hs0,⟨⟨d0,_⟩,⟨d1,_⟩,⟨d2,_⟩,⟨d3,_⟩,⟨d4,_⟩,⟨d5,_⟩⟩⟩:=hs.at_ hl1;obtain rfl:s'=s:=by rw[h1]at hs0;cases hs0;rfl
 obtain⟨b',off',pv',hpp,hs1,⟨_,⟨e1,_⟩,_,_,_,_⟩⟩:=hs.at_ (i:=k) (by omega);simp only[Option.some.injEq,Addr.mk.injEq,and_true]at hpp;obtain⟨rfl,rfl⟩:=hpp;obtain rfl:pv'=pv:=by rw[hk]at hs1;cases hs1;rfl
 have f0:=Ax hb1 d0;have f1:=Ax hb1 d1;have f2:=Ax hb1 d2;have f3:=Ax hb1 d3;have f4:=Ax hb1 d4;have f5:=Ax hb1 d5;have e2:=Ax hbx e1;have hq2:=hq.below Ev.keeps hbx;have hct:=Mu w #[.slice p0 secs.length c0,.slice (some ⟨b,off,none⟩) syms.length c1,v2,.bool sig,v4] #[.string s'.name,.int .i64 s'.bind,.int .i64 s'.type,.int .i64 s'.sec,.int .i64 s'.value,.int .i64 s'.size] 27 98;have a0:=hct.1 0;have a1:=hct.1 1;have g0:=hct.2 0;have g1:=hct.2 1;have g2:=hct.2 2;have g3:=hct.2 3;have g4:=hct.2 4;have g5:=hct.2 5;simp only[List.getElem?_toArray,List.getElem?_cons_succ,List.getElem?_cons_zero]at a0 a1 g0 g1 g2 g3 g4 g5;have HK:=Aa (symNB.eq_1 secs pv'.bind s');have HN:=Aa fun W=>Vw s'.name W;have hz:((k:Int)+1==0)=false:=by simp;omega
 have hk1:(0:Int)≤(k:Int)+1:=by omega
 have hk3:(0:Int)≤(k:Int):=by omega
 have hkw:IntKind.i64.wrap ((k:Int)+1 - 1)=(k:Int):=by rw[show(k:Int)+1 - 1=k by omega];exact Al _ (by omega)
 have hke:(k:Int)+1 - 1=(k:Int):=by omega
 have hlk:(k:Int)+1 < (syms.length:Int):=by omega
 have hlk2:(k:Int) < (syms.length:Int):=by omega
 have hkt:((k:Int)+1).toNat=k+1:=by omega
 generalize symNB secs pv'.bind s'=res at*;generalize hm:syms.length=m at*;generalize hqq:secs.length=ql at*;generalize mayB s'.name.data.toList=qn at*;have HQ:=Aa hq2;have HQL:=Aa hqq;clear hct hs h1 hk hs0 hs1 d0 d1 d2 d3 d4 d5 e1 hq hq2 hm hqq;go_enter Tryz.func77,Tryz.ntmps77;go_upto_region 4 with fail
 go_wp2_with fail
 refine(HN.out _).mono ?_;rintro e w2 ⟨rfl,rfl⟩;go_upto_region 5 with fail
 generalize hgb:w.heap.size=gb at*;generalize hW1:(w.alloc (.cells #[.slice p0 ql c0,.slice (some ⟨b,off,none⟩) m c1,v2,.bool sig,v4] 27)).alloc (.cells #[.string s'.name,.int .i64 s'.bind,.int .i64 s'.type,.int .i64 s'.sec,.int .i64 s'.value,.int .i64 s'.size] 98)=W1 at*;obtain⟨k1,hk11⟩:∃c,c=(!qn || decide (s'.bind < 0) || decide (2 < s'.bind) || decide (s'.type < 0) || decide (3 < s'.type) || decide (s'.size < 0) || decide (2147483647 < s'.size)):=⟨_,rfl⟩
 rw[←hk11]at HK;go_cut [76] (fun s76 wx=>s76= .bool k1∧wx=W1)
 case first=>
  cases qn
  ·subst hk11;go_wp2_with fail
   go_meet;exact⟨rfl,rfl⟩
  cases t1:decide (s'.bind < 0)
  ·cases t2:decide (2 < s'.bind)
   ·cases t3:decide (s'.type < 0)
    ·cases t4:decide (3 < s'.type)
     ·cases t5:decide (s'.size < 0)
      ·cases t6:decide (2147483647 < s'.size)
       ·rw[t1,t2,t3,t4,t5,t6]at hk11;subst hk11;go_wp2_with fail
        go_meet;exact⟨rfl,rfl⟩
       ·rw[t1,t2,t3,t4,t5,t6]at hk11;subst hk11;go_wp2_with fail
        go_meet;exact⟨rfl,rfl⟩
      ·rw[t1,t2,t3,t4,t5]at hk11;subst hk11;go_wp2_with fail
       go_meet;exact⟨rfl,rfl⟩
     ·rw[t1,t2,t3,t4]at hk11;subst hk11;go_wp2_with fail
      go_meet;exact⟨rfl,rfl⟩
    ·rw[t1,t2,t3]at hk11;subst hk11;go_wp2_with fail
     go_meet;exact⟨rfl,rfl⟩
   ·rw[t1,t2]at hk11;subst hk11;go_wp2_with fail
    go_meet;exact⟨rfl,rfl⟩
  ·rw[t1]at hk11;subst hk11;go_wp2_with fail
   go_meet;exact⟨rfl,rfl⟩
 case rest=>
  obtain⟨rfl,rfl⟩:=hcut;clear hk11;cases k1
  case true=>
   go_wp2_with fail
   go_ret;subst hgb;exact⟨by rw[HK.out];rfl,hbx⟩
  obtain⟨k2,hk22⟩:∃c,c=(decide (s'.sec < -1) || decide ((ql:Int) < s'.sec) || decide (s'.value < 0) || decide (2147483647 < s'.value)):=⟨_,rfl⟩
  rw[←hk22]at HK;have HK2:=Aa hk22;go_upto_region 7 with fail
  go_cut [97] (fun s97 wx=>s97= .bool k2∧wx=wc)
  case first=>
   cases t1:decide (s'.sec < -1)
   ·cases t2:decide ((ql:Int) < s'.sec)
    ·cases t3:decide (s'.value < 0)
     ·cases t4:decide (2147483647 < s'.value)
      ·rw[t1,t2,t3,t4]at hk22;subst hk22;go_wp2_with fail
       go_meet;exact⟨rfl,rfl⟩
      ·rw[t1,t2,t3,t4]at hk22;subst hk22;go_wp2_with fail
       go_meet;exact⟨rfl,rfl⟩
     ·rw[t1,t2,t3]at hk22;subst hk22;go_wp2_with fail
      go_meet;exact⟨rfl,rfl⟩
    ·rw[t1,t2]at hk22;subst hk22;go_wp2_with fail
     go_meet;exact⟨rfl,rfl⟩
   ·rw[t1]at hk22;subst hk22;go_wp2_with fail
    go_meet;exact⟨rfl,rfl⟩
  case rest=>
   obtain⟨rfl,rfl⟩:=hcut;clear hk22;cases k2
   case true=>
    go_wp2_with fail
    go_ret;subst hgb;exact⟨by rw[HK.out];rfl,hbx⟩
   have hsb: -1≤s'.sec∧s'.sec≤(ql:Int):=by
    have:=HK2.out;have h2:=this.symm;simp only[Bool.or_eq_false_iff,decide_eq_false_iff_not]at h2;omega
   obtain⟨k3,hk33⟩:∃c,c=(((s'.sec==0)&&decide (0 < s'.value)) || (decide (0 < s'.sec)&&decide (secSize secs s'.sec < s'.value))):=⟨_,rfl⟩
   rw[←hk33]at HK;go_upto_region 9 with fail
   go_cut [123] (fun s123 wx=>s123= .bool k3∧∃n,wx=wc.drewN n)
   case first=>
    by_cases hs0:s'.sec=0
    ·have q0:(s'.sec==0)=true:=by simpa using hs0
     have q1:decide (0 < s'.sec)=false:=Ai (by omega);rw[q0,q1]at hk33;clear hs0 hsb;cases q2:decide (0 < s'.value)
     all_goals
      rw[q2]at hk33;subst hk33;go_quiet (fail);go_wp2_with fail
      go_meet;exact⟨rfl,_,rfl⟩
    ·have q0:(s'.sec==0)=false:=by simpa using hs0
     rw[q0]at hk33;by_cases hs1:0 < s'.sec
     ·have q1:decide (0 < s'.sec)=true:=Aj hs1;rw[q1]at hk33;have hj:(s'.sec - 1).toNat < secs.length:=by rw[HQL.out];omega
      obtain⟨bq,oq,x,hxp,hxi,⟨_,_,_,_,_,_,⟨hx6,_⟩,_,_⟩⟩:=HQ.out.at_ hj;have hsz:secSize secs s'.sec=x.size:=by unfold secSize;rw[hxi]
      rw[hsz]at hk33;have hw1:IntKind.i64.wrap (s'.sec - 1)=s'.sec - 1:=Al _ (by omega);have hw2:(0:Int)≤s'.sec - 1:=by omega
      have hw3:s'.sec - 1 < (ql:Int):=by omega
      have hw4:1≤s'.sec:=by omega
      have hw5:s'.sec≤(ql:Int):=hsb.2;obtain⟨j,hjt⟩:∃j,(s'.sec - 1).toNat=j:=⟨_,rfl⟩
      have hjt2:s'.sec.toNat - 1=j:=by omega
      rw[hjt]at hx6;subst hxp;clear hs0 hsb hxi hsz hj;cases q2:decide (x.size < s'.value)
      all_goals
       rw[q2]at hk33;subst hk33;go_quiet (fail);go_wp2_with fail
       go_meet;exact⟨rfl,_,rfl⟩
     ·have q1:decide (0 < s'.sec)=false:=Ai hs1;rw[q1]at hk33;subst hk33;clear hs0 hs1 hsb;go_quiet (fail);go_wp2_with fail
      go_meet;exact⟨rfl,_,rfl⟩
   case rest=>
    obtain⟨rfl,nq,rfl⟩:=hcut;clear hk33;have hby:=Bq hbx nq;cases k3
    case true=>
     go_wp2_with fail
     go_ret;subst hgb;exact⟨by rw[HK.out];rfl,hby⟩
    cases t1:(s'.bind==0)
    ·rw[t1]at HK;go_wp2_with fail
     go_ret;subst hgb;exact⟨by rw[HK.out];rfl,hby⟩
    ·rw[t1]at HK;cases t2:(s'.sec != 0)
     all_goals
      rw[t2]at HK;go_wp2_with fail
      go_ret;subst hgb;exact⟨by rw[HK.out];rfl,hby⟩
end Go.Proofs.YteopgmieindojaaGreat
