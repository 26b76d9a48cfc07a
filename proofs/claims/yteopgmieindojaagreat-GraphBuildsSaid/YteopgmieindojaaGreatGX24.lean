/- Parts of a proof. -/
import Derived.Test.YteopgmieindojaaGreatGX23
import Derived.Test.YteopgmieindojaaGreatGX07
import Derived.Deep.QuietTactic
import Derived.BigQuiet
import Derived.Deep.DeepCutAuto
set_option maxRecDepth 1000000
set_option maxHeartbeats 8000000
namespace Go.Proofs.YteopgmieindojaaGreat
open Go.RowKit
abbrev Jor (s:Ct):Value:= .agg #[.string s.name,.int .i64 s.bind,.int .i64 s.type,.int .i64 s.sec,.int .i64 s.value,.int .i64 s.size]
def symO(s:Ct):Bool:=bif (s.bind != 0)&&s.name.toList.isEmpty then false else mayB (lst s.name)&&(inR s.bind 0 2&&(inR s.type 0 3&&inR s.size 0 2147483647))
theorem Jb3(s:Ct)(w:World):Calls Tryz.prog 151 #[Jor s] w fun e w'=>e= .returned (.bool (symO s))∧Below w.heap.size w w':=by
 have hb1:Below w.heap.size w (w.alloc (.cells #[.string s.name,.int .i64 s.bind,.int .i64 s.type,.int .i64 s.sec,.int .i64 s.value,.int .i64 s.size] 98)):=(Ag _ w).alloc (Af _) _;have hha:=Dd w (.cells #[.string s.name,.int .i64 s.bind,.int .i64 s.type,.int .i64 s.sec,.int .i64 s.value,.int .i64 s.size] 98);have HM:=Aa fun W=>Jdo s.name W;have HW1:=Aa fun W=>Ek s.bind 0 2 W;have HW2:=Aa fun W=>Ek s.type 0 3 W;have HW3:=Aa fun W=>Nw s.size W;have HB1:=Aa hb1;have hr:symO s=bif (s.bind != 0)&&s.name.toList.isEmpty then false else mayB (lst s.name)&&(inR s.bind 0 2&&(inR s.type 0 3&&inR s.size 0 2147483647)):=rfl
 generalize hc:((s.bind != 0)&&s.name.toList.isEmpty)=c at*;generalize symO s=res at*;generalize mayB (lst s.name)=m at*;generalize inR s.bind 0 2=q1 at*;generalize inR s.type 0 3=q2 at*;generalize inR s.size 0 2147483647=q3 at*;have HR:=Aa hr;have HC:=Aa hc;clear hr hb1 hc;go_enter Tryz.func151,Tryz.ntmps151;go_upto_region 1 with fail
 generalize w.alloc (.cells #[.string s.name,.int .i64 s.bind,.int .i64 s.type,.int .i64 s.sec,.int .i64 s.value,.int .i64 s.size] 98)=W1 at*;obtain⟨s0,s1,s2,s3,s4,s5⟩:=Oj _ _ _ _ _ _ _ _ _ hha;clear hha;go_cut [10] (fun s10 wx=>s10= .bool c∧W1=wx)
 case first=>
  cases t1:(s.bind != 0)with
  |true=>
   have hE:Hid (c=s.name.toList.isEmpty):=Aa (by rw[←HC.out,t1];rfl);go_wp2_with fail
   go_meet;exact⟨by rw[hE.out],by trivial⟩
  |false=>
   have hE:Hid (c=false):=Aa (by rw[←HC.out,t1];rfl);go_wp2_with fail
   go_meet;exact⟨by rw[hE.out],by trivial⟩
 case rest=>
  obtain⟨rfl,rfl⟩:=hcut;clear HC;cases c with
  |true=>
   have hE:Hid (res=false):=Aa (by rw[HR.out];rfl);go_wp2_with fail
   go_ret;rw[hE.out];exact⟨rfl,HB1.out⟩
  |false=>
   have hE:Hid (res=(m&&(q1&&(q2&&q3)))):=Aa (by rw[HR.out];rfl);clear HR;go_wp2_with fail
   refine(HM.out _).mono ?_;rintro e w' ⟨rfl,rfl⟩;cases m with
   |false=>
    have hE2:Hid (res=false):=Aa (by rw[hE.out];rfl);go_wp2_with fail
    go_ret;rw[hE2.out];exact⟨rfl,HB1.out⟩
   |true=>
    go_wp2_with fail
    refine(HW1.out _).mono ?_;rintro e w' ⟨rfl,rfl⟩;cases q1 with
    |false=>
     have hE2:Hid (res=false):=Aa (by rw[hE.out];rfl);go_wp2_with fail
     go_ret;rw[hE2.out];exact⟨rfl,HB1.out⟩
    |true=>
     go_wp2_with fail
     refine(HW2.out _).mono ?_;rintro e w' ⟨rfl,rfl⟩;cases q2 with
     |false=>
      have hE2:Hid (res=false):=Aa (by rw[hE.out];rfl);go_wp2_with fail
      go_ret;rw[hE2.out];exact⟨rfl,HB1.out⟩
     |true=>
      have hE2:Hid (res=q3):=Aa (by rw[hE.out];rfl);go_wp2_with fail
      refine(HW3.out _).mono ?_;rintro e w' ⟨rfl,rfl⟩;go_wp2_with fail
      go_ret;rw[hE2.out];exact⟨rfl,HB1.out⟩
def valO(secs:List Ca)(s:Ct):Bool:=
 bif !inR s.sec (-1) secs.length || !inR s.value 0 2147483647 then false else
 bif s.sec==0 then(s.bind != 0)&&(s.value==0)else
 bif decide (0 < s.sec)then decide (s.value≤secSize secs s.sec)else true
theorem Ye(s:Ct)(p0:Option Addr)(c0:Nat)(secs:List Ca)(w:World)(hq:Bg 9 Ev w p0 secs)(hql:secs.length≤1000000):
 Calls Tryz.prog 152 #[Jor s,.slice p0 secs.length c0] w fun e w'=>e= .returned (.bool (valO secs s))∧Below w.heap.size w w':=by
 have hb1:Below w.heap.size w (w.alloc (.cells #[.string s.name,.int .i64 s.bind,.int .i64 s.type,.int .i64 s.sec,.int .i64 s.value,.int .i64 s.size] 98)):=(Ag _ w).alloc (Af _) _;have hha:=Dd w (.cells #[.string s.name,.int .i64 s.bind,.int .i64 s.type,.int .i64 s.sec,.int .i64 s.value,.int .i64 s.size] 98);have HQ:=Aa (hq.below Ev.keeps hb1);have HW1:=Aa fun W=>Ek s.sec (-1) (secs.length:Int) W;have HW3:=Aa fun W=>Nw s.value W;have HB1:=Aa hb1;have hr:valO secs s=bif !inR s.sec (-1) secs.length || !inR s.value 0 2147483647 then false else
  bif s.sec==0 then(s.bind != 0)&&(s.value==0)else
  bif decide (0 < s.sec)then decide (s.value≤secSize secs s.sec)else true:=rfl
 have hin:inR s.sec (-1) secs.length=true→ -1≤s.sec∧s.sec≤secs.length:=fun h=>by
  unfold inR at h;simpa using h
 generalize valO secs s=res at*;generalize inR s.sec (-1) secs.length=q1 at*;generalize inR s.value 0 2147483647=q3 at*;have HIN:=Aa hin;have HR:=Aa hr;generalize hqn:secs.length=ql at*;have HQN:=Aa hqn;clear hr hb1 hq hin hqn;go_enter Tryz.func152,Tryz.ntmps152;go_upto_region 1 with fail
 generalize w.alloc (.cells #[.string s.name,.int .i64 s.bind,.int .i64 s.type,.int .i64 s.sec,.int .i64 s.value,.int .i64 s.size] 98)=W1 at*;obtain⟨s0,s1,s2,s3,s4,s5⟩:=Oj _ _ _ _ _ _ _ _ _ hha;clear hha;go_wp2_with fail
 refine(HW1.out _).mono ?_;rintro e w' ⟨rfl,rfl⟩;cases q1 with
 |false=>
  have hE:Hid (res=false):=Aa (by rw[HR.out];rfl);go_wp2_with fail
  go_ret;rw[hE.out];exact⟨rfl,HB1.out⟩
 |true=>
  go_wp2_with fail
  refine(HW3.out _).mono ?_;rintro e w' ⟨rfl,rfl⟩;cases q3 with
  |false=>
   have hE:Hid (res=false):=Aa (by rw[HR.out];rfl);go_wp2_with fail
   go_ret;rw[hE.out];exact⟨rfl,HB1.out⟩
  |true=>
   have hR2:Hid (res=bif s.sec==0 then(s.bind != 0)&&(s.value==0)else bif decide (0 < s.sec)then decide (s.value≤secSize secs s.sec)else true):=Aa (by rw[HR.out];rfl);clear HR;cases t0:(s.sec==0)with
   |true=>
    cases t1:(s.bind != 0)with
    |true=>
     have hE:Hid (res=(s.value==0)):=Aa (by rw[hR2.out,t0,t1];rfl);go_wp2_with fail
     go_ret;rw[hE.out];exact⟨rfl,HB1.out⟩
    |false=>
     have hE:Hid (res=false):=Aa (by rw[hR2.out,t0,t1];rfl);go_wp2_with fail
     go_ret;rw[hE.out];exact⟨rfl,HB1.out⟩
   |false=>
    by_cases hp:0 < s.sec
    ·have hb:=HIN.out (by trivial);obtain⟨k,hk⟩:∃k:Nat,s.sec=(k:Int)+1:=⟨(s.sec - 1).toNat,by omega⟩
     have hkl:k < secs.length:=by rw[HQN.out];omega
     obtain⟨b,off,x,rfl,hx,_,_,_,_,_,_,⟨d6,_⟩,_⟩:=HQ.out.at_ (i:=k) hkl;have hsz:secSize secs s.sec=x.size:=by
      unfold secSize;rw[hk,show((k:Int)+1 - 1).toNat=k by omega,hx]
     have hE:Hid (res=decide (s.value≤x.size)):=Aa (by rw[hR2.out,t0,Aj hp,hsz];rfl);have hkw:IntKind.i64.wrap (s.sec - 1)=(k:Int):=by rw[show s.sec - 1=(k:Int) by omega];exact Al _ (by omega)
     have hk0:(0:Int)≤(k:Int):=by omega
     have hkq:(k:Int) < (ql:Int):=by have:=HQN.out;omega
     clear hk hkl hx hsz hb;go_wp2_with fail
     go_quiet (fail);go_wp2_with fail
     go_ret;rw[hE.out];exact⟨rfl,Bq HB1.out _⟩
    ·have hE:Hid (res=true):=Aa (by rw[hR2.out,t0,Ai hp];rfl);go_wp2_with fail
     go_ret;rw[hE.out];exact⟨rfl,HB1.out⟩
end Go.Proofs.YteopgmieindojaaGreat
