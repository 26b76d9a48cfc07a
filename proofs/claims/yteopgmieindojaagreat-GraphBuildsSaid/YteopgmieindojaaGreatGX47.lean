/- Parts of a proof. -/
import Derived.Test.YteopgmieindojaaGreatGX17
import Derived.Deep.QuietTactic
import Derived.BigQuiet
import Derived.Deep.DeepCutAuto
set_option maxRecDepth 1000000
set_option maxHeartbeats 8000000
namespace Go.Proofs.YteopgmieindojaaGreat
open Go.RowKit
theorem Jbb(a n:Int)(w:World)(h: -9223372036854775808≤a+n∧a+n≤9223372036854775807):
 Calls Tryz.prog 202 #[.agg #[.int .i64 a,.int .i64 n]] w fun e w'=>e= .returned (.int .i64 (a+n))∧Below w.heap.size w w':=by
 have k1:IntKind.i64.wrap (a+n)=a+n:=Al _ h;go_enter Tryz.func202,Tryz.ntmps202;go_wp2_with fail
 go_ret;exact⟨rfl,(Ag _ w).alloc (Af _) _⟩
theorem Jhw(cb:Array Value)(n k:Nat)(w:World)(hn:n≤1000000)(hk:k≤n)
 (hf:∀W,Below w.heap.size w W→∀i:Nat,i < n→Calls Tryz.prog 201 (#[.int .i64 (i:Int)]++cb) W fun e w'=>e= .returned (.bool (decide (k≤i)))∧Below W.heap.size W w'):
 Calls Tryz.prog 200 #[.int .i64 (n:Int),.func (.func 201) #[] cb] w fun e w'=>e= .returned (.int .i64 (k:Int))∧Below w.heap.size w w':=by
 have HF:=Aa hf;clear hf;go_enter Tryz.func200,Tryz.ntmps200;go_wp2_with fail
 go_loopw [5,6] (fun r5 r6 wr=>∃lo hi:Nat,lo≤k∧k≤hi∧hi≤n∧r5= .int .i64 (lo:Int)∧r6= .int .i64 (hi:Int)∧Below w.heap.size w wr) (fun r5 r6 _=>(intOf r6).toNat - (intOf r5).toNat)
 case atStart=>exact⟨0,n,Ak _,hk,Af _,rfl,rfl,Ag _ _⟩
 case round=>
  obtain⟨lo,hi,h1,h2,h3,rfl,rfl,hb⟩:=hrel;by_cases hlt:lo < hi
  ·have hc:=HF.out wr hb ((lo+hi) / 2) (by omega);have hm1:lo≤(lo+hi) / 2:=by omega
   have hm2:(lo+hi) / 2 < hi:=by omega
   rw[show(((lo+hi) / 2:Nat):Int)=((lo:Int)+(hi:Int)) / 2 by omega]at hc;have HM:=Aa (show((lo:Int)+(hi:Int)) / 2=(((lo+hi) / 2:Nat):Int) by omega);generalize (lo+hi) / 2=m at*;cases hp:decide (k≤m)<;>rw[hp]at hc
   ·have HP:=Aa (of_decide_eq_false hp);have HC:=Aa hc;clear hp hc;go_wp2_with fail
    refine HC.out.mono ?_;rintro e w' ⟨rfl,hb2⟩;have hb3:=hb.trans (hb2.mono hb.size);have kw:IntKind.i64.wrap (((lo:Int)+(hi:Int)) / 2+1)=((lo:Int)+(hi:Int)) / 2+1:=Al _ (by omega);clear HC hb hb2;go_wp2_with fail
    go_roundw
    case rel=>exact⟨m+1,hi,by have:=HP.out;omega,h2,h3,by rw[HM.out];go_num,rfl,hb3⟩
    case measure=>simp[intOf];omega
   ·have HP:=Aa (of_decide_eq_true hp);have HC:=Aa hc;clear hp hc;go_wp2_with fail
    refine HC.out.mono ?_;rintro e w' ⟨rfl,hb2⟩;have hb3:=hb.trans (hb2.mono hb.size);clear HC hb hb2;go_wp2_with fail
    go_roundw
    case rel=>exact⟨lo,m,h1,HP.out,by omega,rfl,by rw[HM.out],hb3⟩
    case measure=>simp[intOf];omega
  ·have e:lo=k:=by omega
   subst e;go_wp2_with fail
   go_ret;exact⟨rfl,hb⟩
theorem Jiy(bl ba:Nat)(pp:Option Addr)(c:Nat)(l:List PcD)(at_:Int)(i:Nat)(p:PcD)(w:World)(hl:w.cell? ⟨bl,0,none⟩=some (.slice pp l.length c))(ha:w.cell? ⟨ba,0,none⟩=some (.int .i64 at_))
 (hh:Bg 2 EPc w pp l)(hp:l[i]?=some p)(hbd: -9223372036854775808≤p.at_+p.size∧p.at_+p.size≤9223372036854775807):
 Calls Tryz.prog 201 (#[.int .i64 (i:Int)]++ #[.pointer (some ⟨ba,0,none⟩),.pointer (some ⟨bl,0,none⟩)]) w fun e w'=>e= .returned (.bool (decide (at_ < p.at_+p.size)))∧Below w.heap.size w w':=by
 have hi:i < l.length:=(Ab.1 hp).1;obtain⟨b,off,q,rfl,hq,⟨⟨d0,_⟩,⟨d1,_⟩⟩⟩:=hh.at_ hi;obtain rfl:q=p:=by rw[hp]at hq;cases hq;rfl
 have HE:=Aa fun W=>Jbb q.at_ q.size W hbd;generalize l.length=n at*;have hJ:(i:Int) < (n:Int):=by omega
 have hJ0:(0:Int)≤(i:Int):=by omega
 clear hh hp hq hbd;go_enter Tryz.func201,Tryz.ntmps201;go_wp2_with fail
 go_region_with (go_at_call 202;refine(HE.out _).mono ?_;rintro e w1 ⟨rfl,hb1⟩;have k1:=Ax hb1 ha;have k2:=Ax hb1 hl;have hb2:Below w.heap.size w w1:=Kk (w:=w) hb1 rfl)
 all_goals go_wp2_with fail
 all_goals go_ret
 all_goals exact⟨rfl,hb2⟩
theorem Jmf:Ob:=fun pp c l n at_ w hh hlc hcm hpn hl4 hch hn hbd hone ha0 ha1=>by
 obtain⟨k,hk,hcut,hres⟩:=Jmz (at_:=at_) hch hbd;have hba:Below w.heap.size w ((w.alloc (.cells #[.slice pp l.length c] 209)).alloc (.cells #[.int .i64 at_] 3)):=((Ag _ w).alloc (Af _) _).alloc (by simp) _;have cl:((w.alloc (.cells #[.slice pp l.length c] 209)).alloc (.cells #[.int .i64 at_] 3)).cell? ⟨w.heap.size,0,none⟩=some (.slice pp l.length c):=(Mu w #[.slice pp l.length c] #[.int .i64 at_] _ _).1 0;have ca:((w.alloc (.cells #[.slice pp l.length c] 209)).alloc (.cells #[.int .i64 at_] 3)).cell? ⟨w.heap.size+1,0,none⟩=some (.int .i64 at_):=(Mu w #[.slice pp l.length c] #[.int .i64 at_] _ _).2 0;have hfn:∀W,Below w.heap.size w W→W.cell? ⟨w.heap.size,0,none⟩=some (.slice pp l.length c)→W.cell? ⟨w.heap.size+1,0,none⟩=some (.int .i64 at_)→∀i:Nat,i < l.length→
  Calls Tryz.prog 201 (#[.int .i64 (i:Int)]++ #[.pointer (some ⟨w.heap.size+1,0,none⟩),.pointer (some ⟨w.heap.size,0,none⟩)]) W fun e w'=>e= .returned (.bool (decide (k≤i)))∧Below W.heap.size W w':=fun W hW h1 h2 i hi=>by
  have hx:l[i]?=some l[i]:=Ae hi;have hb:=hbd _ (Ad hx);have:=Jiy w.heap.size (w.heap.size+1) pp c l at_ i l[i] W h1 h2 (hh.below EPc.keeps hW) hx (by omega);rw[hcut i _ hx]at this;exact this
 generalize hW:(w.alloc (.cells #[.slice pp l.length c] 209)).alloc (.cells #[.int .i64 at_] 3)=W0 at*;have hs0:w.heap.size≤W0.heap.size:=hba.size;have hS:=Jhw #[.pointer (some ⟨w.heap.size+1,0,none⟩),.pointer (some ⟨w.heap.size,0,none⟩)] l.length k W0 (by omega) hk fun W hW i hi=>hfn W (hba.trans (hW.mono hs0)) (Ax hW cl) (Ax hW ca) i hi;have HS:=Aa hS;have HBD:=Aa hbd;have HRES:=Aa hres;have HH:=Aa (hh.below EPc.keeps hba);have HBA:=Aa hba;clear hS hfn hcut hres hbd hh hone hch hba;generalize hln:l.length=ln at*;have HLN:=Aa hln;clear hln;go_enter Tryz.func166,Tryz.ntmps166;go_wp2_with fail
 refine HS.out.mono ?_;rintro e w1 ⟨rfl,hb1⟩;have hb:Below w.heap.size w w1:=HBA.out.trans (hb1.mono hs0);have k1:=Ax hb1 cl;have k2:=Ax hb1 ca;have hkl:(k:Int)≤(ln:Int):=by omega
 have hj:IntKind.i64.wrap ((ln:Int) - 1)=(ln:Int) - 1:=Al _ (by omega);have hk0:(0:Int)≤(k:Int):=by omega
 have hx:k < ln→∃b off p,pp=some ⟨b,off,none⟩∧l[k]?=some p∧w1.cell? ⟨b,off+k*2,none⟩=some (.int .i64 p.at_):=fun h=>by
  obtain⟨b,off,p,e,hp,⟨⟨d0,_⟩,_⟩⟩:=HH.out.at_ (i:=k) (by rw[HLN.out];exact h);exact⟨b,off,p,e,hp,Ax hb1 d0⟩
 have HX:=Aa hx;have hb1':=hb1;clear hx HS hb1 cl ca hW hs0 HBA;rcases HRES.out with⟨p,hp,hpa,hin⟩|⟨hno,hrest⟩
 ·obtain⟨b,off,q,rfl,hq,d0⟩:=HX.out (by have:=(Ab.1 hp).1;have:=HLN.out;omega);obtain rfl:q=p:=by rw[hp]at hq;cases hq;rfl
  have hJ:(k:Int) < (ln:Int):=by have:=(Ab.1 hp).1;have:=HLN.out;omega
  have hD:decide (q.at_≤at_)=true:=Aj hpa;have HIN:=Aa hin;clear hp hq hin HX hpa HRES;go_wp2_with fail
  go_quiet (fail);go_wp2_with fail
  go_ret;rw[HIN.out];exact⟨rfl,Bq hb _⟩
 ·have HR:=Aa hrest;have HNO:=Aa hno;clear hrest hno HRES;have hl1:0 < ln→∃b off p,pp=some ⟨b,off,none⟩∧l[ln - 1]?=some p∧w1.cell? ⟨b,off+(ln - 1)*2,none⟩=some (.int .i64 p.at_)∧w1.cell? ⟨b,off+(ln - 1)*2+1,none⟩=some (.int .i64 p.size):=fun h=>by
   obtain⟨b,off,p,e,hp,⟨⟨d0,_⟩,⟨d1,_⟩⟩⟩:=HH.out.at_ (i:=ln - 1) (by rw[HLN.out];omega);exact⟨b,off,p,e,hp,Ax hb1' d0,Ax hb1' d1⟩
  have HL1:=Aa hl1;clear hl1 hb1';go_upto_region 2 with fail
  go_cut [23] (fun s23 wx=>s23= .bool false∧∃m,wx=w1.drewN m)
  case first=>
   by_cases hlt:k < ln
   ·obtain⟨b,off,q,rfl,hq,d0⟩:=HX.out hlt;have hJ:(k:Int) < (ln:Int):=by omega
    have hD:decide (q.at_≤at_)=false:=Ai (by have:=HNO.out q hq;omega);clear HX hq HNO hlt HR HL1;go_quiet (fail);go_wp2_with fail
    go_meet;exact⟨rfl,_,rfl⟩
   ·have hJ:¬(k:Int) < (ln:Int):=by omega
    clear HX HNO hlt HR HL1;go_quiet (fail);go_wp2_with fail
    go_meet;exact⟨rfl,_,rfl⟩
  case rest=>
   obtain⟨rfl,m,rfl⟩:=hcut;have k3:(w1.drewN m).cell? ⟨w.heap.size,0,none⟩=some (.slice pp ln c):=k1;have k4:(w1.drewN m).cell? ⟨w.heap.size+1,0,none⟩=some (.int .i64 at_):=k2;have hbm:Below w.heap.size w (w1.drewN m):=Bq hb _;have HL2:Hid (0 < ln→∃b off p,pp=some ⟨b,off,none⟩∧l[ln - 1]?=some p∧(w1.drewN m).cell? ⟨b,off+(ln - 1)*2,none⟩=some (.int .i64 p.at_)∧(w1.drewN m).cell? ⟨b,off+(ln - 1)*2+1,none⟩=some (.int .i64 p.size)):=HL1;clear HX HNO HL1 hb k1 k2;generalize w1.drewN m=w2 at*;by_cases h0:0 < ln
   ·obtain⟨b,off,q,rfl,hq,d0,d1⟩:=HL2.out h0;obtain⟨j,rfl⟩:∃j,ln=j+1:=⟨ln - 1,by omega⟩
    have e1:((j+1:Nat):Int) - 1=(j:Int):=by omega
    simp only[Nat.add_sub_cancel]at d0 d1 hq;rw[e1]at hj;have HE:=Aa fun W=>Jbb q.at_ q.size W (by have:=HBD.out q (Ad hq);omega);obtain⟨t,ht⟩:∃t,t=(at_==q.at_+q.size):=⟨_,rfl⟩
    have HRR:Hid (inP l at_=bif t then(j:Int)else -1):=Aa (by
     rcases HR.out with⟨p,hp,e,hi⟩|⟨hp,hi⟩
     ·simp only[Nat.add_sub_cancel]at hp;rw[hq]at hp;cases hp;rw[hi,ht,e,beq_self_eq_true];show((j+1:Nat):Int) - 1=(j:Int);omega
     ·simp only[Nat.add_sub_cancel]at hp;have:=hp q hq;rw[hi,ht,show(at_==q.at_+q.size)=false by simpa using this]
      rfl)
    clear HL2 HR h0 hq;cases t with
    |true=>
     have ht2:(at_==q.at_+q.size)=true:=ht.symm;clear ht;go_wp2_with fail
     go_region_with (go_at_call 202;refine(HE.out _).mono ?_;rintro e w3 ⟨rfl,hb3⟩;have k5:=Ax hb3 k3;have k6:=Ax hb3 k4;have hb4:Below w.heap.size w w3:=hbm.drew.trans (hb3.mono hbm.drew.size))
     all_goals go_wp2_with fail
     all_goals go_ret
     all_goals rw[HRR.out]
     all_goals exact⟨rfl,hb4⟩
    |false=>
     have ht2:(at_==q.at_+q.size)=false:=ht.symm;clear ht;go_wp2_with fail
     go_region_with (go_at_call 202;refine(HE.out _).mono ?_;rintro e w3 ⟨rfl,hb3⟩;have k5:=Ax hb3 k3;have k6:=Ax hb3 k4;have hb4:Below w.heap.size w w3:=hbm.drew.trans (hb3.mono hbm.drew.size))
     all_goals go_wp2_with fail
     all_goals go_ret
     all_goals rw[HRR.out]
     all_goals exact⟨rfl,hb4⟩
   ·obtain rfl:ln=0:=by omega
    have HRR:Hid (inP l at_= -1):=Aa (by
     have hl0:l= []:=List.eq_nil_of_length_eq_zero HLN.out;subst hl0
     rfl)
    clear HL2 HR h0;go_wp2_with fail
    go_quiet (fail);go_wp2_with fail
    go_ret;rw[HRR.out];exact⟨rfl,Bq hbm _⟩
end Go.Proofs.YteopgmieindojaaGreat
