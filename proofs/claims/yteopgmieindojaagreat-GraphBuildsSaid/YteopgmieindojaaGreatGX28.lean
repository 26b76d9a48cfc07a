/- Parts of a proof. -/
import Derived.Test.YteopgmieindojaaGreatGX27
import Derived.Test.YteopgmieindojaaGreatGX23
set_option maxRecDepth 1000000
set_option maxHeartbeats 8000000
namespace Go.Proofs.YteopgmieindojaaGreat
open Go.RowKit
def secO(nm:ByteArray)(ty fl al en sz:Int)(dl rl:Nat)(last0:Bool):Bool:=
 mayB (lst nm)&&((bits .andNot .i64 fl 2097847==0)&&(inR al 1 4096&&((bits .and .i64 al (al - 1)==0)&&(typeO ty fl sz dl&&mergeO fl al en sz dl rl last0))))
theorem Jbp(nm:ByteArray)(ty fl al en li sz:Int)(dp rp:Option Addr)(dl dc rl rc:Nat)(data:List UInt8)(w:World)(hd:Has w dp data)(hdl:data.length=dl)(hdm:dl≤dc)(hdm2:dc≤maxLen):
 Calls Tryz.prog 155 #[Pe nm ty fl al en li sz (.slice dp dl dc) (.slice rp rl rc)] w fun e w'=>e= .returned (.bool (secO nm ty fl al en sz dl rl (data.getLast?==some 0)))∧Below w.heap.size w w':=by
 have hb1:Below w.heap.size w (w.alloc (.cells #[.string nm,.int .i64 ty,.int .i64 fl,.int .i64 al,.int .i64 en,.int .i64 li,.int .i64 sz,.slice dp dl dc,.slice rp rl rc] 89)):=(Ag _ w).alloc (Af _) _;have hha:=Dd w (.cells #[.string nm,.int .i64 ty,.int .i64 fl,.int .i64 al,.int .i64 en,.int .i64 li,.int .i64 sz,.slice dp dl dc,.slice rp rl rc] 89);have HS:=Aa (Nl.of hha);have HD:=Aa (hd.below hb1);have HM:=Aa fun W=>Jdo nm W;have HW:=Aa fun W=>Ek al 1 4096 W;have HT:=Aa fun W=>Jai nm ty fl al en li sz dp rp dl dc rl rc W;have HG:=Aa fun W (h:Has W dp data)=>Xg nm ty fl al en li sz dp rp dl dc rl rc data W h hdl hdm hdm2;have hr:secO nm ty fl al en sz dl rl (data.getLast?==some 0)=(mayB (lst nm)&&((bits .andNot .i64 fl 2097847==0)&&(inR al 1 4096&&((bits .and .i64 al (al - 1)==0)&&(typeO ty fl sz dl&&mergeO fl al en sz dl rl (data.getLast?==some 0)))))):=rfl;have hin:inR al 1 4096=true→1≤al∧al≤4096:=fun h=>by
  unfold inR at h;simpa using h
 have HIN:=Aa hin;have HB1:=Aa hb1;generalize secO nm ty fl al en sz dl rl (data.getLast?==some 0)=res at*;generalize mergeO fl al en sz dl rl (data.getLast?==some 0)=mg at*;generalize typeO ty fl sz dl=tp at*;generalize mayB (lst nm)=m at*;generalize inR al 1 4096=q at*;have HR:=Aa hr;clear hr hb1 hha hd hdl hin hdm hdm2;go_enter Tryz.func155,Tryz.ntmps155;go_upto_region 1 with fail
 generalize w.alloc (.cells #[.string nm,.int .i64 ty,.int .i64 fl,.int .i64 al,.int .i64 en,.int .i64 li,.int .i64 sz,.slice dp dl dc,.slice rp rl rc] 89)=W1 at*;obtain⟨s0,s1,s2,s3,s4,s5,s6,s7,s8⟩:=HS.out;have hbs:=HB1.out.size;go_wp2_with fail
 refine(HM.out _).mono ?_;rintro e w' ⟨rfl,rfl⟩;cases m with
 |false=>
  have hE:Hid (res=false):=Aa (by rw[HR.out];rfl);go_wp2_with fail
  go_ret;rw[hE.out];exact⟨rfl,HB1.out⟩
 |true=>
  cases t1:(bits .andNot .i64 fl 2097847==0)with
  |false=>
   have hE:Hid (res=false):=Aa (by rw[HR.out,t1];rfl);go_wp2_with fail
   go_ret;rw[hE.out];exact⟨rfl,HB1.out⟩
  |true=>
   have hE:Hid (res=(q&&((bits .and .i64 al (al - 1)==0)&&(tp&&mg)))):=Aa (by rw[HR.out,t1];rfl);clear HR;go_wp2_with fail
   refine(HW.out _).mono ?_;rintro e w' ⟨rfl,rfl⟩;cases q with
   |false=>
    have hE2:Hid (res=false):=Aa (by rw[hE.out];rfl);go_wp2_with fail
    go_ret;rw[hE2.out];exact⟨rfl,HB1.out⟩
   |true=>
    have hal:=HIN.out (by trivial);have kw:IntKind.i64.wrap (al - 1)=al - 1:=Al _ (by omega);have hE2:Hid (res=((bits .and .i64 al (al - 1)==0)&&(tp&&mg))):=Aa (by rw[hE.out];rfl);clear hE;cases t2:(bits .and .i64 al (al - 1)==0)with
    |false=>
     have hE3:Hid (res=false):=Aa (by rw[hE2.out,t2];rfl);go_wp2_with fail
     go_ret;rw[hE3.out];exact⟨rfl,HB1.out⟩
    |true=>
     have hE3:Hid (res=(tp&&mg)):=Aa (by rw[hE2.out,t2];rfl);go_wp2_with fail
     refine(HT.out _).mono ?_;rintro e w2 ⟨rfl,hb2⟩;have HS2:=Aa (HS.out.later hb2);have HD2:=Aa (HD.out.below hb2);have hbw2:Below w.heap.size w w2:=HB1.out.trans (hb2.mono hbs);clear s0 s1 s2 s3 s4 s5 s6 s7 s8 hb2 HS HD;obtain⟨s0,s1,s2,s3,s4,s5,s6,s7,s8⟩:=HS2.out;have hbs2:=hbw2.size;cases tp with
     |false=>
      have hE4:Hid (res=false):=Aa (by rw[hE3.out];rfl);go_wp2_with fail
      go_ret;rw[hE4.out];exact⟨rfl,hbw2⟩
     |true=>
      have hE4:Hid (res=mg):=Aa (by rw[hE3.out];rfl);go_wp2_with fail
      refine(HG.out _ HD2.out).mono ?_;rintro e w3 ⟨rfl,hb3⟩;have hbw3:Below w.heap.size w w3:=hbw2.trans (hb3.mono hbs2);clear s0 s1 s2 s3 s4 s5 s6 s7 s8 hb3 HS2 HD2 hbw2;go_wp2_with fail
      go_ret;rw[hE4.out];exact⟨rfl,hbw3⟩
end Go.Proofs.YteopgmieindojaaGreat
