/- Parts of a proof. -/
import Derived.Test.YteopgmieindojaaGreatGX01
set_option maxRecDepth 1000000
set_option maxHeartbeats 8000000
namespace Go.Proofs.YteopgmieindojaaGreat
open Go.RowKit
def kindB(ty fl al en sz:Int)(dl rl:Nat)(last0:Bool):Bool:=
 bif !flagsB fl || !alignB al || (hasF fl 1&&hasF fl 4)then false else
 bif (ty==1)&&((sz != (dl:Int)) || decide (16384 < sz))then false else
 bif (ty==8)&&(decide (0 < (dl:Int)) || decide (sz < 0) || decide (2147483647 < sz) || !hasF fl 1 || hasF fl 16)then false else
 bif (ty != 1)&&(ty != 8)then false else
 bif !hasF fl 16 then(en==0)&& !hasF fl 32 else
 bif hasF fl 1 || hasF fl 4 || decide (0 < (rl:Int))then false else
 bif hasF fl 32 then(en==1)&&(al==1)&&(((dl:Int)==0) || last0)else
 (en==4 || en==8 || en==16)&&decide (al≤en)&&(sz.tmod en==0)
theorem Jml(nm:ByteArray)(ty fl al en li sz:Int)(dp rp:Option Addr)(dl dc rl rc:Nat)(data:List UInt8)(w:World)(hf: -9223372036854775808≤fl∧fl≤9223372036854775807)(_hsz: -9223372036854775808≤sz∧sz≤9223372036854775807)
 (hd:Has w dp data)(hdl:data.length=dl)(hdc:dl≤dc)(hdm:dc≤maxLen)(hrm:rl≤maxLen):
 Calls Tryz.prog 121 #[Pe nm ty fl al en li sz (.slice dp dl dc) (.slice rp rl rc)] w fun e w'=>e= .returned (.bool (kindB ty fl al en sz dl rl (data.getLast?==some 0)))∧Below w.heap.size w w':=by
 unfold maxLen at hdm hrm;have H1:=Aa fun W=>Kc nm ty fl al en li sz (.slice dp dl dc) (.slice rp rl rc) 1 W (by omega) (by omega) hf;have H4:=Aa fun W=>Kc nm ty fl al en li sz (.slice dp dl dc) (.slice rp rl rc) 4 W (by omega) (by omega) hf;have H16:=Aa fun W=>Kc nm ty fl al en li sz (.slice dp dl dc) (.slice rp rl rc) 16 W (by omega) (by omega) hf;have H32:=Aa fun W=>Kc nm ty fl al en li sz (.slice dp dl dc) (.slice rp rl rc) 32 W (by omega) (by omega) hf;have HF:=Aa fun W=>Jjr fl W hf;have HA:=Aa fun W=>Jje al W;have HK:=Aa (kindB.eq_1 ty fl al en sz dl rl (data.getLast?==some 0));generalize hasF fl 1=q1 at*;generalize hasF fl 4=q4 at*;generalize hasF fl 16=q16 at*;generalize hasF fl 32=q32 at*;generalize flagsB fl=qf at*;generalize alignB al=qa at*;generalize kindB ty fl al en sz dl rl (data.getLast?==some 0)=res at*;have hbb:Below w.heap.size w (w.alloc (.cells #[.string nm,.int .i64 ty,.int .i64 fl,.int .i64 al,.int .i64 en,.int .i64 li,.int .i64 sz,.slice dp dl dc,.slice rp rl rc] 89)):=(Ag _ w).alloc (Af _) _;have a0:(w.alloc (.cells #[.string nm,.int .i64 ty,.int .i64 fl,.int .i64 al,.int .i64 en,.int .i64 li,.int .i64 sz,.slice dp dl dc,.slice rp rl rc] 89)).cell? ⟨w.heap.size,0,none⟩=some (.string nm):=by simp
 have a1:(w.alloc (.cells #[.string nm,.int .i64 ty,.int .i64 fl,.int .i64 al,.int .i64 en,.int .i64 li,.int .i64 sz,.slice dp dl dc,.slice rp rl rc] 89)).cell? ⟨w.heap.size,1,none⟩=some (.int .i64 ty):=by simp
 have a2:(w.alloc (.cells #[.string nm,.int .i64 ty,.int .i64 fl,.int .i64 al,.int .i64 en,.int .i64 li,.int .i64 sz,.slice dp dl dc,.slice rp rl rc] 89)).cell? ⟨w.heap.size,2,none⟩=some (.int .i64 fl):=by simp
 have a3:(w.alloc (.cells #[.string nm,.int .i64 ty,.int .i64 fl,.int .i64 al,.int .i64 en,.int .i64 li,.int .i64 sz,.slice dp dl dc,.slice rp rl rc] 89)).cell? ⟨w.heap.size,3,none⟩=some (.int .i64 al):=by simp
 have a4:(w.alloc (.cells #[.string nm,.int .i64 ty,.int .i64 fl,.int .i64 al,.int .i64 en,.int .i64 li,.int .i64 sz,.slice dp dl dc,.slice rp rl rc] 89)).cell? ⟨w.heap.size,4,none⟩=some (.int .i64 en):=by simp
 have a5:(w.alloc (.cells #[.string nm,.int .i64 ty,.int .i64 fl,.int .i64 al,.int .i64 en,.int .i64 li,.int .i64 sz,.slice dp dl dc,.slice rp rl rc] 89)).cell? ⟨w.heap.size,5,none⟩=some (.int .i64 li):=by simp
 have a6:(w.alloc (.cells #[.string nm,.int .i64 ty,.int .i64 fl,.int .i64 al,.int .i64 en,.int .i64 li,.int .i64 sz,.slice dp dl dc,.slice rp rl rc] 89)).cell? ⟨w.heap.size,6,none⟩=some (.int .i64 sz):=by simp
 have a7:(w.alloc (.cells #[.string nm,.int .i64 ty,.int .i64 fl,.int .i64 al,.int .i64 en,.int .i64 li,.int .i64 sz,.slice dp dl dc,.slice rp rl rc] 89)).cell? ⟨w.heap.size,7,none⟩=some (.slice dp dl dc):=by simp
 have a8:(w.alloc (.cells #[.string nm,.int .i64 ty,.int .i64 fl,.int .i64 al,.int .i64 en,.int .i64 li,.int .i64 sz,.slice dp dl dc,.slice rp rl rc] 89)).cell? ⟨w.heap.size,8,none⟩=some (.slice rp rl rc):=by simp
 obtain⟨wb,hwb⟩:∃wb,wb=w.alloc (.cells #[.string nm,.int .i64 ty,.int .i64 fl,.int .i64 al,.int .i64 en,.int .i64 li,.int .i64 sz,.slice dp dl dc,.slice rp rl rc] 89):=⟨_,rfl⟩
 obtain⟨gb,hgb⟩:∃gb,gb=w.heap.size:=⟨_,rfl⟩
 rw[←hwb,←hgb]at a0 a1 a2 a3 a4 a5 a6 a7 a8;rw[←hwb]at hbb;have HD:=Aa hd;have HDL:=Aa hdl;clear hd hdl hf;go_enter Tryz.func121,Tryz.ntmps121;go_wp2_with fail
 rw[←hwb,←hgb];clear hwb hgb;refine(H1.out _).mono ?_;rintro e w1 ⟨rfl,hx1⟩;have b0:=Ax hx1 a0;have b1:=Ax hx1 a1;have b2:=Ax hx1 a2;have b3:=Ax hx1 a3;have b4:=Ax hx1 a4;have b5:=Ax hx1 a5;have b6:=Ax hx1 a6;have b7:=Ax hx1 a7;have b8:=Ax hx1 a8;have hy1:=hbb.trans (hx1.mono hbb.size);clear hx1 hbb a0 a1 a2 a3 a4 a5 a6 a7 a8;go_wp2_with fail
 refine(H4.out _).mono ?_;rintro e w2 ⟨rfl,hx2⟩;have c0:=Ax hx2 b0;have c1:=Ax hx2 b1;have c2:=Ax hx2 b2;have c3:=Ax hx2 b3;have c4:=Ax hx2 b4;have c5:=Ax hx2 b5;have c6:=Ax hx2 b6;have c7:=Ax hx2 b7;have c8:=Ax hx2 b8;have hy2:=hy1.trans (hx2.mono hy1.size);clear hx2 hy1 b0 b1 b2 b3 b4 b5 b6 b7 b8;go_wp2_with fail
 refine(H16.out _).mono ?_;rintro e w3 ⟨rfl,hx3⟩;have d0:=Ax hx3 c0;have d1:=Ax hx3 c1;have d2:=Ax hx3 c2;have d3:=Ax hx3 c3;have d4:=Ax hx3 c4;have d5:=Ax hx3 c5;have d6:=Ax hx3 c6;have d7:=Ax hx3 c7;have d8:=Ax hx3 c8;have hy3:=hy2.trans (hx3.mono hy2.size);clear hx3 hy2 c0 c1 c2 c3 c4 c5 c6 c7 c8;go_wp2_with fail
 refine(H32.out _).mono ?_;rintro e w4 ⟨rfl,hx4⟩;have e0:=Ax hx4 d0;have e1:=Ax hx4 d1;have e2:=Ax hx4 d2;have e3:=Ax hx4 d3;have e4:=Ax hx4 d4;have e5:=Ax hx4 d5;have e6:=Ax hx4 d6;have e7:=Ax hx4 d7;have e8:=Ax hx4 d8;have hy4:=hy3.trans (hx4.mono hy3.size);clear hx4 hy3 d0 d1 d2 d3 d4 d5 d6 d7 d8;go_wp2_with fail
 refine(HF.out _).mono ?_;rintro e w5 ⟨rfl,hx5⟩;have f0:=Ax hx5 e0;have f1:=Ax hx5 e1;have f2:=Ax hx5 e2;have f3:=Ax hx5 e3;have f4:=Ax hx5 e4;have f5:=Ax hx5 e5;have f6:=Ax hx5 e6;have f7:=Ax hx5 e7;have f8:=Ax hx5 e8;have hb:=hy4.trans (hx5.mono hy4.size);clear hx5 hy4 e0 e1 e2 e3 e4 e5 e6 e7 e8;go_wp2_with fail
 refine(HA.out _).mono ?_;rintro e w6 ⟨rfl,rfl⟩;clear H1 H4 H16 H32 HF HA;go_upto_region 7 with fail
 obtain⟨c1,hc1⟩:∃c,c=(!qf || !qa || (q1&&q4)):=⟨_,rfl⟩
 rw[←hc1]at HK;go_cut [34] (fun s34 wx=>s34= .bool c1∧wx=w5)
 case first=>
  subst hc1;cases qf
  ·go_wp2_with fail
   go_meet;exact⟨rfl,rfl⟩
  cases qa
  ·go_wp2_with fail
   go_meet;exact⟨rfl,rfl⟩
  cases q1
  ·go_wp2_with fail
   go_meet;exact⟨rfl,rfl⟩
  cases q4
  all_goals
   go_wp2_with fail
   go_meet;exact⟨rfl,rfl⟩
 case rest=>
  obtain⟨rfl,rfl⟩:=hcut;clear hc1;cases c1 with
  |true=>
   go_wp2_with fail
   go_ret;exact⟨by rw[HK.out];rfl,hb⟩
  |false=>
   as_aux_lemma=>
    obtain⟨c2,hc2⟩:∃c,c=((ty==1)&&((sz != (dl:Int)) || decide (16384 < sz))):=⟨_,rfl⟩
    rw[←hc2]at HK;go_upto_region 9 with fail
    go_cut [50] (fun s50 wx=>s50= .bool c2∧wx=wc)
    case first=>
     cases h1:(ty==1)
     ·rw[h1]at hc2;subst hc2;go_wp2_with fail
      go_meet;exact⟨rfl,rfl⟩
     cases h2:(sz != (dl:Int))
     ·cases h3:decide (16384 < sz)
      all_goals
       rw[h1,h2,h3]at hc2;subst hc2;go_wp2_with fail
       go_meet;exact⟨rfl,rfl⟩
     ·rw[h1,h2]at hc2;subst hc2;go_wp2_with fail
      go_meet;exact⟨rfl,rfl⟩
    case rest=>
     obtain⟨rfl,rfl⟩:=hcut;clear hc2;cases c2 with
     |true=>
      go_wp2_with fail
      go_ret;exact⟨by rw[HK.out];rfl,hb⟩
     |false=>
      as_aux_lemma=>
       obtain⟨c3,hc3⟩:∃c,c=((ty==8)&&(decide (0 < (dl:Int)) || decide (sz < 0) || decide (2147483647 < sz) || !q1 || q16)):=⟨_,rfl⟩
       rw[←hc3]at HK;go_upto_region 11 with fail
       go_cut [76] (fun s76 wx=>s76= .bool c3∧wx=wc)
       case first=>
        cases h1:(ty==8)
        ·rw[h1]at hc3;subst hc3;go_wp2_with fail
         go_meet;exact⟨rfl,rfl⟩
        rcases Nat.eq_zero_or_pos dl with rfl|hdp
        ·cases h3:decide (sz < 0)
         ·cases h4:decide (2147483647 < sz)
          ·cases q1
           ·rw[h1,h3,h4]at hc3;subst hc3;go_wp2_with fail
            go_meet;exact⟨rfl,rfl⟩
           ·cases q16
            all_goals
             rw[h1,h3,h4]at hc3;subst hc3;go_wp2_with fail
             go_meet;exact⟨rfl,rfl⟩
          ·rw[h1,h3,h4]at hc3;subst hc3;go_wp2_with fail
           go_meet;exact⟨rfl,rfl⟩
         ·rw[h1,h3]at hc3;subst hc3;go_wp2_with fail
          go_meet;exact⟨rfl,rfl⟩
        ·have hdi:(0:Int) < (dl:Int):=by omega
         rw[h1,Aj hdi]at hc3;subst hc3;go_wp2_with fail
         go_meet;exact⟨rfl,rfl⟩
       case rest=>
        obtain⟨rfl,rfl⟩:=hcut;clear hc3;cases c3 with
        |true=>
         go_wp2_with fail
         go_ret;exact⟨by rw[HK.out];rfl,hb⟩
        |false=>
         as_aux_lemma=>
          obtain⟨c4,hc4⟩:∃c,c=((ty != 1)&&(ty != 8)):=⟨_,rfl⟩
          rw[←hc4]at HK;go_upto_region 13 with fail
          go_cut [84] (fun s84 wx=>s84= .bool c4∧wx=wc)
          case first=>
           cases h1:(ty != 1)
           ·rw[h1]at hc4;subst hc4;go_wp2_with fail
            go_meet;exact⟨rfl,rfl⟩
           cases h2:(ty != 8)
           all_goals
            rw[h1,h2]at hc4;subst hc4;go_wp2_with fail
            go_meet;exact⟨rfl,rfl⟩
          case rest=>
           obtain⟨rfl,rfl⟩:=hcut;clear hc4;cases c4 with
           |true=>
            go_wp2_with fail
            go_ret;exact⟨by rw[HK.out];rfl,hb⟩
           |false=>
            cases q16 with
            |false=>
             cases h1:(en==0)
             ·rw[h1]at HK;go_wp2_with fail
              go_ret;exact⟨by rw[HK.out];rfl,hb⟩
             ·rw[h1]at HK;cases q32
              all_goals
               go_wp2_with fail
               go_ret;exact⟨by rw[HK.out];rfl,hb⟩
            |true=>
             as_aux_lemma=>
              obtain⟨c5,hc5⟩:∃c,c=(q1 || q4 || decide (0 < (rl:Int))):=⟨_,rfl⟩
              rw[←hc5]at HK;go_upto_region 17 with fail
              go_cut [103] (fun s103 wx=>s103= .bool c5∧wx=wc)
              case first=>
               cases q1
               ·cases q4
                ·rcases Nat.eq_zero_or_pos rl with rfl|hrp
                 ·subst hc5;go_wp2_with fail
                  go_meet;exact⟨rfl,rfl⟩
                 ·have hri:(0:Int) < (rl:Int):=by omega
                  rw[Aj hri]at hc5;subst hc5;go_wp2_with fail
                  go_meet;exact⟨rfl,rfl⟩
                ·subst hc5;go_wp2_with fail
                 go_meet;exact⟨rfl,rfl⟩
               ·subst hc5;go_wp2_with fail
                go_meet;exact⟨rfl,rfl⟩
              case rest=>
               obtain⟨rfl,rfl⟩:=hcut;clear hc5;cases c5 with
               |true=>
                go_wp2_with fail
                go_ret;exact⟨by rw[HK.out];rfl,hb⟩
               |false=>
                cases q32 with
                |true=>
                 cases h1:(en==1)
                 ·rw[h1]at HK;go_wp2_with fail
                  go_ret;exact⟨by rw[HK.out];rfl,hb⟩
                 cases h2:(al==1)
                 ·rw[h1,h2]at HK;go_wp2_with fail
                  go_ret;exact⟨by rw[HK.out];rfl,hb⟩
                 rw[h1,h2]at HK;rcases Nat.eq_zero_or_pos dl with rfl|hdp
                 ·go_wp2_with fail
                  go_ret;exact⟨by rw[HK.out];rfl,hb⟩
                 ·obtain⟨b,off,rfl,hcell⟩:=HD.out.plain (by rw[HDL.out];exact hdp);have hlast:data[dl - 1]?=some (data[dl - 1]'(by rw[HDL.out];omega)):=Ae _;generalize data[dl - 1]'(by rw[HDL.out];omega)=x at hlast;have hcx:=Cf hb (hcell (dl - 1) x hlast);have hl0:(data.getLast?==some 0)=((x.toNat:Int)==0):=by
                   rw[List.getLast?_eq_getElem?,HDL.out,hlast];by_cases hx:x=0
                   ·subst hx;rfl
                   ·have h3:¬(x.toNat:Int)=0:=fun e=>hx (UInt8.toNat_inj.1 (by simpa using e));have e1:((x.toNat:Int)==0)=false:=by simpa using h3
                    rw[e1];simpa using hx
                  have hz:((dl:Int)==0)=false:=by simp;omega
                  rw[hl0,hz]at HK;have hdi:(0:Int) < (dl:Int):=by omega
                  have hk1:IntKind.i64.wrap ((dl:Int) - 1)=(dl:Int) - 1:=Al _ (by omega);have hk2:((dl:Int) - 1).toNat=dl - 1:=by omega
                  have hk3:(0:Int)≤(dl:Int) - 1:=by omega
                  have hk4:(dl:Int) - 1 < (dl:Int):=by omega
                  clear hcell hlast hl0;go_wp2_with fail
                  go_ret;exact⟨by rw[HK.out];rfl,hb⟩
                |false=>
                 by_cases he4:en=4
                 ·subst he4;cases h1:decide (al≤4)
                  all_goals
                   rw[h1]at HK;go_wp2_with fail
                   go_ret;exact⟨by rw[HK.out];rfl,hb⟩
                 by_cases he8:en=8
                 ·subst he8;cases h1:decide (al≤8)
                  all_goals
                   rw[h1]at HK;go_wp2_with fail
                   go_ret;exact⟨by rw[HK.out];rfl,hb⟩
                 by_cases he16:en=16
                 ·subst he16;cases h1:decide (al≤16)
                  all_goals
                   rw[h1]at HK;go_wp2_with fail
                   go_ret;exact⟨by rw[HK.out];rfl,hb⟩
                 have h4:(en==4)=false:=by simpa using he4
                 have h8:(en==8)=false:=by simpa using he8
                 have h16:(en==16)=false:=by simpa using he16
                 rw[h4,h8,h16]at HK;clear he4 he8 he16;go_wp2_with fail
                 go_ret;exact⟨by rw[HK.out];rfl,hb⟩
end Go.Proofs.YteopgmieindojaaGreat
