/- Parts of a proof. -/
import Derived.Test.YteopgmieindojaaGreatGX24
import Derived.Test.YteopgmieindojaaGreatGX25
import Derived.Test.YteopgmieindojaaGreatGX05
import Derived.Test.YteopgmieindojaaGreatGX08
import Derived.Test.YteopgmieindojaaGreatGX01
import Derived.Test.YteopgmieindojaaGreatGX23
import Derived.Test.YteopgmieindojaaGreatGX03
set_option maxRecDepth 1000000
set_option maxHeartbeats 8000000
namespace Go.Proofs.YteopgmieindojaaGreat
open Go.RowKit
def symsGoO(secs:List Ca):Bool→List Ct→Bool
 |_, []=>true
 |locals,s::t=>bif (s.bind==0)&& !locals then false else symO s&&(valO secs s&&symsGoO secs (s.bind==0) t)
def Xu(syms:List Ct):Bool:=match syms[0]? with
 |none=>false
 |some s=>sym0B s
def symsO(secs:List Ca)(syms:List Ct):Bool:=bif decide (128 < syms.length)then false else Xu syms&&symsGoO secs true (syms.drop 1)
theorem Jah(v2 v4:Value)(hs:Bool)(p0 p1:Option Addr)(c0 c1:Nat)(secs:List Ca)(syms:List Ct)(w:World)(hq:Bg 9 Ev w p0 secs)(hy:Bg 6 Ie w p1 syms)(hql:secs.length≤1000000)(hyc:syms.length≤c1):
 Calls Tryz.prog 93 #[Gq (.slice p0 secs.length c0) (.slice p1 syms.length c1) v2 hs v4] w fun e w'=>e= .returned (.bool (symsO secs syms))∧Below w.heap.size w w':=by
 have hb1:Below w.heap.size w (w.alloc (.cells #[.slice p0 secs.length c0,.slice p1 syms.length c1,v2,.bool hs,v4] 27)):=(Ag _ w).alloc (Af _) _;have a0:(w.alloc (.cells #[.slice p0 secs.length c0,.slice p1 syms.length c1,v2,.bool hs,v4] 27)).cell? ⟨w.heap.size,0,none⟩=some (.slice p0 secs.length c0):=by simp
 have a1:(w.alloc (.cells #[.slice p0 secs.length c0,.slice p1 syms.length c1,v2,.bool hs,v4] 27)).cell? ⟨w.heap.size,1,none⟩=some (.slice p1 syms.length c1):=by simp
 have HQ:=Aa (hq.below Ev.keeps hb1);have HY:=Aa (hy.below Ie.keeps hb1);have HB1:=Aa hb1;have hr:symsO secs syms=bif decide (128 < syms.length)then false else Xu syms&&symsGoO secs true (syms.drop 1):=rfl
 have HV:=Aa fun s p0 c0 W hq=>Ye s p0 c0 secs W hq hql;generalize symsO secs syms=res at*;generalize hyn:syms.length=yl at*;have HYN:=Aa hyn;generalize hqn:secs.length=ql at*;have HR:=Aa hr;clear hb1 hq hy hyn hqn hr hql;go_enter Tryz.func93,Tryz.ntmps93;go_upto_region 1 with fail
 generalize w.alloc (.cells #[.slice p0 ql c0,.slice p1 yl c1,v2,.bool hs,v4] 27)=W1 at*;have hbs:=HB1.out.size;by_cases h0:yl < 1
 ·have hE:Hid (res=false):=Aa (by
   have hn:syms[0]?=none:=List.getElem?_eq_none (by rw[HYN.out];omega);rw[HR.out,Ai (show¬128 < yl by omega)];unfold Xu;rw[hn]
   rfl)
  obtain rfl:yl=0:=by omega
  clear h0;go_wp2_with fail
  go_ret;rw[hE.out];exact⟨rfl,HB1.out⟩
 ·by_cases h64:128 < yl
  ·have hE:Hid (res=false):=Aa (by rw[HR.out,Aj h64];rfl);have hI0:¬(yl:Int) < 1:=by omega
   have hI:(128:Int) < (yl:Int):=by omega
   clear h64 h0;go_wp2_with fail
   go_ret;rw[hE.out];exact⟨rfl,HB1.out⟩
  ·obtain⟨b,off,s,rfl,hs0,⟨d0,_⟩,⟨d1,_⟩,⟨d2,_⟩,⟨d3,_⟩,⟨d4,_⟩,⟨d5,_⟩⟩:=HY.out.at_ (i:=0) (by rw[HYN.out];omega)
   have hE:Hid (res=(sym0B s&&symsGoO secs true (syms.drop 1))):=Aa (by
    rw[HR.out,Ai h64];unfold Xu;rw[hs0]
    rfl)
   have hI0:¬(yl:Int) < 1:=by omega
   have hI:¬(128:Int) < (yl:Int):=by omega
   have hI1:(0:Int) < (yl:Int):=by omega
   simp only[Nat.zero_mul,Nat.add_zero]at d0 d1 d2 d3 d4 d5;have hrest:∀i x,(syms.drop 1)[i]?=some x→Ie W1 b (off+6+i*6) x:=fun i x hx=>by
    rw[List.getElem?_drop]at hx;obtain⟨b',o',e,hE⟩:=HY.out (1+i) x hx;cases e;rw[show off+6+i*6=off+(1+i)*6 by omega];exact hE
   have HREST:=Aa hrest;obtain⟨c,hc⟩:∃c,c=sym0B s:=⟨_,rfl⟩
   have HC:=Aa hc;rw[←hc]at hE;clear HR hrest hc hs0;go_cut [23] (fun s23 wx=>s23= .bool (!c)∧W1=wx)
   case first=>
    go_wp2_with fail
    all_goals go_meet
    all_goals refine⟨?_,by trivial⟩
    all_goals rw[HC.out]
    all_goals clear HC HREST HY HQ HB1 HV hE HYN
    all_goals simp[sym0B, *]
   case rest=>
    obtain⟨rfl,rfl⟩:=hcut;clear HC d0 d1 d2 d3 d4 d5;cases c with
    |false=>
     have hE2:Hid (res=false):=Aa (by rw[hE.out];rfl);go_wp2_with fail
     go_ret;rw[hE2.out];exact⟨rfl,HB1.out⟩
    |true=>
     have hE2:Hid (res=symsGoO secs true (syms.drop 1)):=Aa (by rw[hE.out];rfl);have hI3:(1:Int)≤(yl:Int):=by omega
     go_upto_region 4 with fail
     go_cut [26,27,28] (fun s26 s27 s28 wx=>∃(q:Option Addr)(c':Nat),s26= .slice q (yl - 1) c'∧(1 < yl→q=some ⟨b,off+6,none⟩)∧s27= .int .i64 ((yl - 1:Nat):Int)∧s28= .int .i64 0∧W1=wx)
     case first=>
      by_cases hc1:c1=1
      ·subst hc1;go_wp2_with fail
       go_meet;exact⟨some ⟨b,off,none⟩,0,by rw[show yl - 1=0 by omega],fun h=>absurd h (by omega),by rw[show yl - 1=0 by omega];rfl,rfl,by trivial⟩
      ·go_wp2_with fail
       go_meet;exact⟨_,_,rfl,fun h=>rfl,rfl,rfl,by trivial⟩
     case rest=>
      obtain⟨q,c',rfl,hq,rfl,rfl,rfl⟩:=hcut;have HQ6:=Aa hq;clear hq;go_wp2_with fail
      go_loopw [3,28] (fun r3 r28 wr=>∃(k:Nat)(lo:Bool),k≤yl - 1∧r28= .int .i64 (k:Int)∧r3= .bool lo∧symsGoO secs true (syms.drop 1)=symsGoO secs lo ((syms.drop 1).drop k)∧Below W1.heap.size W1 wr) (fun _ r28 _=>(yl - 1) - (intOf r28).toNat)
      case atStart=>exact⟨0,true,Ak _,rfl,rfl,rfl,Ag _ _⟩
      case round=>
       obtain⟨k,lo,hk,rfl,rfl,hgo,hb⟩:=hrel;have HGO:=Aa hgo;clear hgo;by_cases hlt:k < yl - 1
       ·obtain⟨x,hx⟩:∃x,(syms.drop 1)[k]?=some x:=⟨_,Ae (by rw[List.length_drop,HYN.out];exact hlt)⟩
        obtain⟨⟨x0,_⟩,⟨x1,_⟩,⟨x2,_⟩,⟨x3,_⟩,⟨x4,_⟩,⟨x5,_⟩⟩:=HREST.out k x hx;obtain rfl:=HQ6.out (by omega);have e0:=Ax hb x0;have e1:=Ax hb x1;have e2:=Ax hb x2;have e3:=Ax hb x3;have e4:=Ax hb x4;have e5:=Ax hb x5;have hdr:(syms.drop 1).drop k=x::(syms.drop 1).drop (k+1):=by
         rw[List.drop_eq_getElem_cons (by rw[List.length_drop,HYN.out];exact hlt)];congr 1;exact(Ab.1 hx).2
        have hstep:Hid (res=bif (x.bind==0)&& !lo then false else symO x&&(valO secs x&&symsGoO secs (x.bind==0) ((syms.drop 1).drop (k+1)))):=Aa (by rw[hE2.out,HGO.out,hdr];rfl);have hba:Below wr.heap.size wr (wr.alloc (.cells #[.string x.name,.int .i64 x.bind,.int .i64 x.type,.int .i64 x.sec,.int .i64 x.value,.int .i64 x.size] 98)):=(Ag _ wr).alloc (Af _) _;have hha:=Dd wr (.cells #[.string x.name,.int .i64 x.bind,.int .i64 x.type,.int .i64 x.sec,.int .i64 x.value,.int .i64 x.size] 98);have hb2:Below W1.heap.size W1 (wr.alloc (.cells #[.string x.name,.int .i64 x.bind,.int .i64 x.type,.int .i64 x.sec,.int .i64 x.value,.int .i64 x.size] 98)):=hb.trans (hba.mono hb.size);have HS:=Aa fun W=>Jb3 x W;have hJ:(k:Int) < ((yl - 1:Nat):Int):=by omega
        have k2:(0:Int)≤(k:Int):=by omega
        clear hx x0 x1 x2 x3 x4 x5 hdr;go_upto_region 7 with fail
        generalize wr.alloc (.cells #[.string x.name,.int .i64 x.bind,.int .i64 x.type,.int .i64 x.sec,.int .i64 x.value,.int .i64 x.size] 98)=ws at*;obtain⟨s0,s1,s2,s3,s4,s5⟩:=Oj _ _ _ _ _ _ _ _ _ hha;have b0:=Ax hb2 a0;have hbk:=hb2.size;have hfin:Below w.heap.size w ws:=HB1.out.trans (hb2.mono hbs);clear e0 e1 e2 e3 e4 e5 hba hb hha;obtain⟨t,ht⟩:∃t,t=(x.bind==0):=⟨_,rfl⟩
        have HT:=Aa ht;rw[←ht]at hstep;cases t with
        |true=>
         have ht1:(x.bind==0)=true:=ht.symm;clear ht HT;cases lo with
         |false=>
          have hE3:Hid (res=false):=Aa (by rw[hstep.out];rfl);go_wp2_with fail
          go_ret;rw[hE3.out];exact⟨rfl,hfin⟩
         |true=>
          have hstep2:Hid (res=(symO x&&(valO secs x&&symsGoO secs true ((syms.drop 1).drop (k+1))))):=Aa (by rw[hstep.out];rfl);clear hstep;go_wp2_with fail
          refine(HS.out _).mono ?_;rintro e w2 ⟨rfl,hb3⟩;have hb4:Below W1.heap.size W1 w2:=hb2.trans (hb3.mono hbk);have hfin2:Below w.heap.size w w2:=HB1.out.trans (hb4.mono hbs);have t0:=Ax hb3 s0;have t1:=Ax hb3 s1;have t2:=Ax hb3 s2;have t3:=Ax hb3 s3;have t4:=Ax hb3 s4;have t5:=Ax hb3 s5;have b1:=Ax hb3 b0;clear s0 s1 s2 s3 s4 s5 hb3 b0 hb2 hfin HS;generalize symO x=q1 at*;generalize hv:valO secs x=q2 at*;have HV2:=Aa (HV.out x p0 c0 w2 (HQ.out.below Ev.keeps hb4));rw[hv]at HV2;clear hv;cases q1 with
          |false=>
           have hE3:Hid (res=false):=Aa (by rw[hstep2.out];rfl);go_wp2_with fail
           go_ret;rw[hE3.out];exact⟨rfl,hfin2⟩
          |true=>
           go_wp2_with fail
           refine HV2.out.mono ?_;rintro e w3 ⟨rfl,hb5⟩;have hb6:Below W1.heap.size W1 w3:=hb4.trans (hb5.mono hb4.size);have hfin3:Below w.heap.size w w3:=HB1.out.trans (hb6.mono hbs);clear t0 t1 t2 t3 t4 t5 b1 hb5 hb4 HV2 hfin2;cases q2 with
           |false=>
            have hE3:Hid (res=false):=Aa (by rw[hstep2.out];rfl);go_wp2_with fail
            go_ret;rw[hE3.out];exact⟨rfl,hfin3⟩
           |true=>
            have hE3:Hid (symsGoO secs true (syms.drop 1)=symsGoO secs true ((syms.drop 1).drop (k+1))):=Aa (by rw[←hE2.out,hstep2.out];rfl);go_wp2_with fail
            go_roundw
            case rel=>exact⟨k+1,true,hlt,by go_num,rfl,hE3.out,hb6⟩
            case measure=>simp[intOf];omega
        |false=>
         have ht1:(x.bind==0)=false:=ht.symm;clear ht HT;have hstep2:Hid (res=(symO x&&(valO secs x&&symsGoO secs false ((syms.drop 1).drop (k+1))))):=Aa (by rw[hstep.out];rfl);clear hstep;go_wp2_with fail
         refine(HS.out _).mono ?_;rintro e w2 ⟨rfl,hb3⟩;have hb4:Below W1.heap.size W1 w2:=hb2.trans (hb3.mono hbk);have hfin2:Below w.heap.size w w2:=HB1.out.trans (hb4.mono hbs);have t0:=Ax hb3 s0;have t1:=Ax hb3 s1;have t2:=Ax hb3 s2;have t3:=Ax hb3 s3;have t4:=Ax hb3 s4;have t5:=Ax hb3 s5;have b1:=Ax hb3 b0;clear s0 s1 s2 s3 s4 s5 hb3 b0 hb2 hfin HS;generalize symO x=q1 at*;generalize hv:valO secs x=q2 at*;have HV2:=Aa (HV.out x p0 c0 w2 (HQ.out.below Ev.keeps hb4));rw[hv]at HV2;clear hv;cases q1 with
         |false=>
          have hE3:Hid (res=false):=Aa (by rw[hstep2.out];rfl);go_wp2_with fail
          go_ret;rw[hE3.out];exact⟨rfl,hfin2⟩
         |true=>
          go_wp2_with fail
          refine HV2.out.mono ?_;rintro e w3 ⟨rfl,hb5⟩;have hb6:Below W1.heap.size W1 w3:=hb4.trans (hb5.mono hb4.size);have hfin3:Below w.heap.size w w3:=HB1.out.trans (hb6.mono hbs);clear t0 t1 t2 t3 t4 t5 b1 hb5 hb4 HV2 hfin2;cases q2 with
          |false=>
           have hE3:Hid (res=false):=Aa (by rw[hstep2.out];rfl);go_wp2_with fail
           go_ret;rw[hE3.out];exact⟨rfl,hfin3⟩
          |true=>
           have hE3:Hid (symsGoO secs true (syms.drop 1)=symsGoO secs false ((syms.drop 1).drop (k+1))):=Aa (by rw[←hE2.out,hstep2.out];rfl);go_wp2_with fail
           go_roundw
           case rel=>exact⟨k+1,false,hlt,by go_num,rfl,hE3.out,hb6⟩
           case measure=>simp[intOf];omega
       ·obtain rfl:k=yl - 1:=by omega
        have hJ:¬((yl - 1:Nat):Int) < ((yl - 1:Nat):Int):=by omega
        have hE3:Hid (res=true):=Aa (by rw[hE2.out,HGO.out,List.drop_eq_nil_of_le (by rw[List.length_drop,HYN.out];exact Af _)];rfl);go_wp2_with fail
        go_ret;rw[hE3.out];exact⟨rfl,HB1.out.trans (hb.mono hbs)⟩
theorem Jmv(t:Ten):∀(i:Nat)(x:Int),t.nums[2*i+1]?=some x→wid x=true:=fun i x hx=>by
 have hi:i < 10:=by have:=(Ab.1 hx).1;simp[Ten.nums]at this;omega
 match i,hi,hx with
 |0,_,hx|1,_,hx|2,_,hx|3,_,hx|4,_,hx|5,_,hx|6,_,hx|7,_,hx|8,_,hx|9,_,hx=>simp[Ten.nums]at hx;subst hx;rfl
theorem Jqn{t:Ten}(h:t.may):∀(i:Nat)(x:Int),t.nums[i]?=some x→ -9223372036854775808≤x∧x≤9223372036854775807:=fun i x hx=>by
 have hm:=Ad hx;simp only[Ten.nums,List.mem_cons,List.not_mem_nil,or_false]at hm;have hf:∀y,y∈t.l→0≤y∧y≤2147483647:=fun y hy=>(Bv y).1 (h y hy);simp only[Ten.l,List.mem_cons,List.not_mem_nil,or_false,forall_eq_or_imp,forall_eq]at hf;omega
theorem Nj(t:Ten):(sectB t).length=64:=rfl
theorem Jbq(t:Ten)(w:World)(h:t.may):Calls Tryz.prog 38 #[t.v] w (Fe (sectB t) w):=by
 have HM:=Aa fun W=>Jqx t W h;have HN:=Aa fun(W:World)(p:Option Addr)(hp:Uu W p t.nums)=>Sq p 20 20 10 t.nums W hp rfl rfl (by omega) (Jmv t) (Jqn h);clear h;go_enter Tryz.func38,Tryz.ntmps38;go_wp2_with fail
 refine(HM.out _).mono ?_;rintro e w2 ⟨rfl,hbb⟩;have c0:w2.cell? ⟨w.heap.size,0,none⟩=some (.int .i64 t.a):=by rw[hbb.cell (by simp<;>omega)];simp
 have c1:w2.cell? ⟨w.heap.size,1,none⟩=some (.int .i64 t.b):=by rw[hbb.cell (by simp<;>omega)];simp
 have c2:w2.cell? ⟨w.heap.size,2,none⟩=some (.int .i64 t.c):=by rw[hbb.cell (by simp<;>omega)];simp
 have c3:w2.cell? ⟨w.heap.size,3,none⟩=some (.int .i64 t.d):=by rw[hbb.cell (by simp<;>omega)];simp
 have c4:w2.cell? ⟨w.heap.size,4,none⟩=some (.int .i64 t.e):=by rw[hbb.cell (by simp<;>omega)];simp
 have c5:w2.cell? ⟨w.heap.size,5,none⟩=some (.int .i64 t.f):=by rw[hbb.cell (by simp<;>omega)];simp
 have c6:w2.cell? ⟨w.heap.size,6,none⟩=some (.int .i64 t.g):=by rw[hbb.cell (by simp<;>omega)];simp
 have c7:w2.cell? ⟨w.heap.size,7,none⟩=some (.int .i64 t.h):=by rw[hbb.cell (by simp<;>omega)];simp
 have c8:w2.cell? ⟨w.heap.size,8,none⟩=some (.int .i64 t.i):=by rw[hbb.cell (by simp<;>omega)];simp
 have c9:w2.cell? ⟨w.heap.size,9,none⟩=some (.int .i64 t.j):=by rw[hbb.cell (by simp<;>omega)];simp
 have hb:Below w.heap.size w w2:=((Ag _ w).alloc (Af _) _).trans (hbb.mono (by simp));clear hbb;go_wp2_with fail
 refine(HN.out _ _ (Ql w2 3 t.nums #[.int .i64 t.a,.int .i64 4,.int .i64 t.b,.int .i64 4,.int .i64 t.c,.int .i64 8,.int .i64 t.d,.int .i64 8,.int .i64 t.e,.int .i64 8,.int .i64 t.f,.int .i64 8,.int .i64 t.g,.int .i64 4,.int .i64 t.h,.int .i64 4,.int .i64 t.i,.int .i64 8,.int .i64 t.j,.int .i64 8] rfl _ rfl)).mono ?_;rintro e w3 ⟨v,rfl,ho,hbb3⟩;have hb3:Below w.heap.size w w3:=(hb.alloc hb.size _).trans (hbb3.mono (by have:=hb.size;simp;omega));have ho3:=Cm (c:=w.heap.size) ho (by have:=hb.size;simp;omega);clear hbb3 ho;go_wp2_with fail
 go_ret;exact⟨_,rfl,ho3,hb3⟩
def tenAt(l:List UInt8)(o:Nat):Ten:=⟨Qm l o 4,Qm l (o+4) 4,Qm l (o+8) 8,Qm l (o+16) 8,Qm l (o+24) 8,Qm l (o+32) 8,Qm l (o+40) 4,Qm l (o+44) 4,Qm l (o+48) 8,Qm l (o+56) 8⟩
structure Bk where
 (h:Ten)(name:ByteArray)(b:List UInt8)
structure PV where
 (h:Ten)(name:ByteArray)(v:Value)
def PV.cells(q:Bool)(p:PV):List Value:=bif q then p.h.l.map (Value.int .i64)++ [.string p.name,p.v]else .string p.name::(p.h.l.map (Value.int .i64)++ [p.v])
def pvs(q:Bool)(l:List PV):List Value:=l.flatMap (PV.cells q)
theorem PV.cells_length(q:Bool)(p:PV):(p.cells q).length=12:=by cases q<;>rfl
theorem Nb(q:Bool):∀l:List PV,(pvs q l).length=l.length*12
 | []=>rfl
 |p::r=>by
  have h:=Nb q r;unfold pvs at h⊢;rw[List.flatMap_cons,List.length_append,PV.cells_length,h,List.length_cons];omega
theorem Np(q:Bool)(a b:List PV):pvs q (a++b)=pvs q a++pvs q b:=by unfold pvs;rw[List.flatMap_append]
theorem Jmj(q:Bool)(a:List PV)(p:PV):pvs q (a++ [p])=pvs q a++p.cells q:=by rw[Np];unfold pvs;simp
theorem Jg2(q:Bool):∀(l:List PV)(i:Nat)(p:PV)(j:Nat),l[i]?=some p→j < 12→(pvs q l)[i*12+j]?=(p.cells q)[j]?
 | [],i,p,j,h,_=>by simp at h
 |x::r,0,p,j,h,hj=>by
  simp at h;subst h;unfold pvs;rw[List.flatMap_cons,List.getElem?_append_left (by rw[PV.cells_length];omega),Nat.zero_mul,Nat.zero_add]
 |x::r,i+1,p,j,h,hj=>by
  have ih:=Jg2 q r i p j (by simpa using h) hj;unfold pvs at ih⊢;rw[List.flatMap_cons,List.getElem?_append_right (by rw[PV.cells_length];omega),PV.cells_length,←ih];congr 1;omega
def SlB(w:World)(K:Nat→Prop)(v:Value)(l:List UInt8):Prop:=
 ∃p c,v= .slice p l.length c∧l.length≤c∧c≤maxLen∧(p=none→c=0)∧∀i x,l[i]?=some x→∃a,p=some a∧w.cell? (a.add i)=some (u8v x)∧K a.block
theorem SlB.weaken{w:World}{K K':Nat→Prop}{v:Value}{l:List UInt8}(h:SlB w K v l)(hK:∀b,b < w.heap.size→K b→K' b):SlB w K' v l:=by
 obtain⟨p,c,e,h1,h2,h3,h4⟩:=h;refine⟨p,c,e,h1,h2,h3,fun i x hx=>?_⟩;obtain⟨a,ea,hc,hk⟩:=h4 i x hx;exact⟨a,ea,hc,hK _ (by have:=Ao w _ hc;rwa [Mx]at this) hk⟩
theorem SlB.below{w w':World}{K:Nat→Prop}{v:Value}{l:List UInt8}(h:SlB w K v l)(hb:Below w.heap.size w w'):SlB w' K v l:=by
 obtain⟨p,c,e,h1,h2,h3,h4⟩:=h;refine⟨p,c,e,h1,h2,h3,fun i x hx=>?_⟩;obtain⟨a,ea,hc,hk⟩:=h4 i x hx;exact⟨a,ea,Ax hb hc,hk⟩
theorem SlB.grown{w w':World}{row row':Option Nat}{K:Nat→Prop}{v:Value}{l:List UInt8}(h:SlB w (fun b=>K b∧some b≠row) v l)(hg:w.grownBy w' row)(hat:row'=row∨row'=some w.heap.size):SlB w' (fun b=>K b∧some b≠row') v l:=by
 obtain⟨p,c,e,h1,h2,h3,h4⟩:=h;refine⟨p,c,e,h1,h2,h3,fun i x hx=>?_⟩;obtain⟨a,ea,hc,hk,hr⟩:=h4 i x hx;have hlt:=Ao w _ hc;rw[Mx]at hlt;refine⟨a,ea,hg.cell hc (by rw[Mx];exact hr),hk,?_⟩;rcases hat with rfl|rfl
 ·exact hr
 ·intro h;have h:=Option.some.inj h;omega
theorem SlB.has{w:World}{K:Nat→Prop}{v:Value}{l:List UInt8}(h:SlB w K v l):∃p c,v= .slice p l.length c∧l.length≤c∧c≤maxLen∧(p=none→c=0)∧Has w p l:=by
 obtain⟨p,c,e,h1,h2,h3,h4⟩:=h;refine⟨p,c,e,h1,h2,h3,fun i x hx=>?_⟩;obtain⟨a,ea,hc,_⟩:=h4 i x hx;exact⟨a,ea,hc⟩
theorem SlB.of_owns{w:World}{base:Nat}{v:Value}{n:Nat}{l:List UInt8}{T:TypeId}{K:Nat→Prop}(h:w.ownsRow base T 1 v n (l.map u8v))(hK:∀b,v.ownBlock=some b→K b):SlB w K v l:=by
 have hl:l.length=n:=by have:=h.1;simpa using this
 rcases h.2 with⟨rfl,hn⟩|⟨g,cap,cur,rfl,_,hg,hnc,hcm,_,_⟩
 ·subst hn;have h0:l= []:=List.eq_nil_of_length_eq_zero hl;subst h0;exact⟨none,0,rfl,Af _,Ak _,fun _=>rfl,fun i x hx=>by simp at hx⟩
 ·refine⟨some ⟨g,0,none⟩,cap,by rw[hl],by omega,hcm,(fun h=>by cases h),fun i x hx=>⟨_,rfl,?_,hK g rfl⟩⟩;have hi:i < n:=by have:=(Ab.1 hx).1;omega
  have hc:=h.cellAt i (by omega);rw[List.getElem?_map,hx]at hc;have ha:(⟨g,0,none⟩:Addr).add i=⟨g,i,none⟩:=by unfold Addr.add;split<;>simp_all
  rw[ha];simpa using hc
theorem SlB.oneCell{w:World}{K:Nat→Prop}{v:Value}{l:List UInt8}(h:SlB w K v l):v.oneCell'=true:=by
 obtain⟨p,c,rfl,_⟩:=h;rfl
def Bf(w:World)(K:Nat→Prop)(pv:List PV)(pd:List Bk):Prop:=
 pv.length=pd.length∧∀(i:Nat)(x:PV)(y:Bk),pv[i]?=some x→pd[i]?=some y→x.h=y.h∧x.name=y.name∧SlB w K x.v y.b
theorem Bf.nil(w:World)(K:Nat→Prop):Bf w K [] []:=⟨rfl,fun i x y h=>by simp at h⟩
theorem Bf.weaken{w:World}{K K':Nat→Prop}{pv:List PV}{pd:List Bk}(h:Bf w K pv pd)(hK:∀b,b < w.heap.size→K b→K' b):Bf w K' pv pd:=
 ⟨h.1,fun i x y h1 h2=>let ⟨a,b,c⟩:=h.2 i x y h1 h2;⟨a,b,c.weaken hK⟩⟩
theorem Bf.below{w w':World}{K:Nat→Prop}{pv:List PV}{pd:List Bk}(h:Bf w K pv pd)(hb:Below w.heap.size w w'):Bf w' K pv pd:=
 ⟨h.1,fun i x y h1 h2=>let ⟨a,b,c⟩:=h.2 i x y h1 h2;⟨a,b,c.below hb⟩⟩
theorem Bf.grown{w w':World}{row row':Option Nat}{K:Nat→Prop}{pv:List PV}{pd:List Bk}(h:Bf w (fun b=>K b∧some b≠row) pv pd)(hg:w.grownBy w' row)(hat:row'=row∨row'=some w.heap.size):Bf w' (fun b=>K b∧some b≠row') pv pd:=
 ⟨h.1,fun i x y h1 h2=>let ⟨a,b,c⟩:=h.2 i x y h1 h2;⟨a,b,c.grown hg hat⟩⟩
theorem Bf.append{w:World}{K:Nat→Prop}{a b:List PV}{c d:List Bk}(h1:Bf w K a c)(h2:Bf w K b d):Bf w K (a++b) (c++d):=by
 refine⟨by simp[h1.1,h2.1],fun i x y hx hy=>?_⟩;rw[List.getElem?_append]at hx hy;rw[←h1.1]at hy;split at hx<;>split at hy
 ·exact h1.2 i x y hx hy
 ·omega
 ·omega
 ·exact h2.2 _ x y hx hy
theorem Bf.one{w:World}{K:Nat→Prop}{h:Ten}{n:ByteArray}{v:Value}{l:List UInt8}(hs:SlB w K v l):Bf w K [⟨h,n,v⟩] [⟨h,n,l⟩]:=
 ⟨rfl,fun i x y hx hy=>by
  match i,hx,hy with
  |0,hx,hy=>
   simp at hx hy;subst hx hy
   exact⟨rfl,rfl,hs⟩⟩
theorem Bf.oneCell{w:World}{K:Nat→Prop}{q:Bool}{pv:List PV}{pd:List Bk}(h:Bf w K pv pd):∀u∈pvs q pv,u.oneCell'=true:=fun u hu=>by
 unfold pvs at hu;obtain⟨x,hx,hu⟩:=List.mem_flatMap.1 hu;obtain⟨i,hi⟩:=Av hx;have hil:i < pd.length:=by rw[←h.1];exact(Ab.1 hi).1
 have hs:=(h.2 i x _ hi (Ae hil)).2.2.oneCell;unfold PV.cells at hu;have hint:∀y∈x.h.l.map (Value.int .i64),y.oneCell'=true:=fun y hy=>by
  obtain⟨z,_,rfl⟩:=List.mem_map.1 hy;rfl
 cases q
 ·simp only[cond_false,List.mem_cons,List.mem_append,List.not_mem_nil,or_false]at hu;rcases hu with rfl|hu|rfl
  ·rfl
  ·exact hint _ hu
  ·exact hs
 ·simp only[cond_true,List.mem_cons,List.mem_append,List.not_mem_nil,or_false]at hu;rcases hu with hu|rfl|rfl
  ·exact hint _ hu
  ·rfl
  ·exact hs
def Hq(T:TypeId)(q:Bool)(lo:Nat)(pd:List Bk)(w:World)(e:Ending)(w':World):Prop:=
 ∃v pv,e= .returned v∧w'.ownsRow w.heap.size T 12 v pd.length (pvs q pv)∧Bf w' (fun b=>lo≤b∧some b≠v.ownBlock) pv pd∧Below w.heap.size w w'
theorem Jf{wr w4:World}{base lo:Nat}{T:TypeId}{q:Bool}{v v1:Value}{pv:List PV}{pd:List Bk}{p:PV}{y:Bk}{o:Obj}
 (hpa:Bf wr (fun b=>lo≤b∧some b≠v.ownBlock) pv pd)(hs:Bf wr (fun b=>lo≤b∧some b≠v.ownBlock) [p] [y])
 (hown4:w4.ownsRow base T 12 v1 (pd.length+1) (pvs q pv++p.cells q))(hg:(wr.alloc o).grownBy w4 v.ownBlock)(hat:v1.ownBlock=v.ownBlock∨v1.ownBlock=some (wr.heap.size+1)):
 w4.ownsRow base T 12 v1 (pd++ [y]).length (pvs q (pv++ [p]))∧Bf w4 (fun b=>lo≤b∧some b≠v1.ownBlock) (pv++ [p]) (pd++ [y]):=by
 have hb:Below wr.heap.size wr (wr.alloc o):=(Ag _ wr).alloc (Af _) _;exact⟨by rw[Jmj,List.length_append];exact hown4,((hpa.append hs).below hb).grown hg (by simpa using hat)⟩
theorem Fi(w:World)(cs:Array Value)(t:TypeId):∀j z,cs.toList[j]?=some z→(w.alloc (.cells cs t)).cell? ((⟨w.heap.size,0,none⟩:Addr).add j)=some z:=fun j z hj=>by
 have ha:(⟨w.heap.size,0,none⟩:Addr).add j=⟨w.heap.size,j,none⟩:=by unfold Addr.add;split<;>simp_all
 rw[ha];refine(Am _ w.heap.size j _ t (0,0) (Ah w _)).trans ?_;simpa using hj
def ulebB:Nat→Nat→List UInt8
 |0,_=> []
 |f+1,n=>if n < 128 then [UInt8.ofNat n]else UInt8.ofNat (128+n % 128)::ulebB f (n / 128)
theorem Lk:∀f n,(ulebB f n).length≤f
 |0,_=>Af _
 |f+1,n=>by
  unfold ulebB;split
  ·simp
  ·have:=Lk f (n / 128);simp;omega
def Ly:ByteArray:=⟨#[46,114,101,108,97]⟩
def Li:ByteArray:=⟨#[46,103,114,111,117,112]⟩
def Qg:ByteArray:=⟨#[46,108,108,118,109,95,97,100,100,114,115,105,103]⟩
def Gc:ByteArray:=⟨#[46,115,121,109,116,97,98]⟩
def Gd:ByteArray:=⟨#[46,115,116,114,116,97,98]⟩
def Gz:ByteArray:=⟨#[46,115,104,115,116,114,116,97,98]⟩
def Vc:ByteArray:=⟨#[]⟩
def Oh(r:Ea):Fou:=⟨r.off,r.type,r.sym,r.add⟩
def Ft(l:List Ea):List UInt8:=l.flatMap fun r=>Nr (Oh r)
def Io(a n:Int):Ten:=⟨0,4,0,0,0,0,a,n,8,24⟩
def Hx(a n:Int)(s:Ca):List Bk:=if s.rels.length=0 then []else [⟨Io a n,Ly,Ft s.rels⟩]
def Iz(a:Int)(secs:List Ca)(i:Nat):List Bk:=match secs[i]? with|some s=>Hx a ((i:Int)+1) s|none=> []
def relPs(a:Int)(secs:List Ca)(k:Nat):List Bk:=(List.range k).flatMap (Iz a secs)
theorem Xe{a:Int}{secs:List Ca}{k:Nat}{s:Ca}(h:secs[k]?=some s):relPs a secs (k+1)=relPs a secs k++Hx a ((k:Int)+1) s:=by
 unfold relPs;rw[List.range_succ,List.flatMap_append];simp[Iz,h]
theorem Jgc(a n:Int)(s:Ca):(Hx a n s).length≤1:=by unfold Hx;split<;>simp
theorem Qw(a:Int)(secs:List Ca):∀k,(relPs a secs k).length≤k
 |0=>by simp[relPs]
 |k+1=>by
  have ih:=Qw a secs k;unfold relPs at ih⊢;rw[List.range_succ,List.flatMap_append,List.length_append];have:(Iz a secs k).length≤1:=by
   unfold Iz;split
   ·exact Jgc _ _ _
   ·simp
  simp;simp at ih;omega
theorem Vu{α β:Type}(f g:α→List β)(h:∀x,(f x).length=(g x).length):∀l:List α,(l.flatMap f).length=(l.flatMap g).length
 | []=>rfl
 |x::r=>by rw[List.flatMap_cons,List.flatMap_cons,List.length_append,List.length_append,h x,Vu f g h r]
theorem Jbv(a b:Int)(secs:List Ca)(k:Nat):(relPs a secs k).length=(relPs b secs k).length:=
 Vu _ _ (fun i=>by unfold Iz Hx;split<;>(try split)<;>rfl) _
theorem Vx(l:List Ea)(r:Ea):Ft (l++ [r])=Ft l++Nr (Oh r):=by simp[Ft]
theorem Pd:∀l:List Ea,(Ft l).length=24*l.length
 | []=>rfl
 |r::l=>by
  have ih:=Pd l;unfold Ft at ih⊢;rw[List.flatMap_cons,List.length_append,Jfp,ih,List.length_cons];omega
def Qn(m:Int):List UInt8:=leB 4 (u64n m)
def Fb(ms:List Int):List UInt8:= [1,0,0,0]++ms.flatMap Qn
theorem Uo(l:List Int)(r:Int):Fb (l++ [r])=Fb l++Qn r:=by simp[Fb]
theorem Nz:∀l:List Int,(Fb l).length=4+4*l.length
 | []=>rfl
 |r::l=>by
  have ih:=Nz l;unfold Fb at ih⊢;simp only[List.length_append,List.flatMap_cons,List.length_cons,List.length_nil]at ih⊢;have:(Qn r).length=4:=Dp _ _;omega
def Hu(a y:Int):Ten:=⟨0,17,0,0,0,0,a,y,4,4⟩
def Dq(a:Int)(g:Cs):Bk:=⟨Hu a g.sym,Li,Fb g.members⟩
def Jk(l:List Int):List UInt8:=l.flatMap fun n=>ulebB 5 n.toNat
theorem Xi(l:List Int)(r:Int):Jk (l++ [r])=Jk l++ulebB 5 r.toNat:=by simp[Jk]
theorem Ue:∀l:List Int,(Jk l).length≤5*l.length
 | []=>Af _
 |r::l=>by
  have ih:=Ue l;unfold Jk at ih⊢;have:=Lk 5 r.toNat;rw[List.flatMap_cons,List.length_append,List.length_cons];omega
def Lb(a:Int):Ten:=⟨0,1879002115,0,0,0,0,a,0,1,0⟩
def Jv(a:Int)(l:List Int):Bk:=⟨Lb a,Qg,Jk l⟩
def groupPs(a:Int)(gs:List Cs)(has:Bool)(sig:List Int):List Bk:=gs.map (Dq a)++bif has then [Jv a sig]else []
theorem Yp(a b:Int)(gs:List Cs)(has:Bool)(sig:List Int):(groupPs a gs has sig).length=(groupPs b gs has sig).length:=by cases has<;>simp[groupPs]
theorem Rk(a:Int)(gs:List Cs)(has:Bool)(sig:List Int):(groupPs a gs has sig).length≤gs.length+1:=by cases has<;>simp[groupPs]
def symIdx(x:Int):Int:=if x= -1 then 65521 else x
def Ko(pl:Nat)(s:Ct):Six:=⟨pl,s.bind,s.type,symIdx s.sec,s.value,s.size⟩
def Dm(l:List Ct):List Nm:=l.map fun s=>lst s.name
def Fm(ns:List Nm)(l:List Ct):List UInt8:=l.flatMap fun s=>entB (Ko (placeOf ns (lst s.name)) s)
theorem Vr(ns:List Nm)(l:List Ct)(s:Ct):Fm ns (l++ [s])=Fm ns l++entB (Ko (placeOf ns (lst s.name)) s):=by simp[Fm]
theorem Tk(ns:List Nm):∀l:List Ct,(Fm ns l).length=24*l.length
 | []=>rfl
 |r::l=>by
  have ih:=Tk ns l;unfold Fm at ih⊢;rw[List.flatMap_cons,List.length_append,Rp,ih,List.length_cons];omega
def Ei(l:List Ct):Nat:=(l.filter fun s=>s.bind==0).length
theorem Tj(l:List Ct)(s:Ct):Ei (l++ [s])=Ei l+(bif s.bind==0 then 1 else 0):=by
 unfold Ei;rw[List.filter_append,List.length_append];cases h:s.bind==0<;>simp[h]
theorem Jfc(l:List Ct):Ei l≤l.length:=List.length_filter_le _ _
def Gu(a:Int)(n:Nat):Ten:=⟨0,2,0,0,0,0,a+1,n,8,24⟩
def Dc:Ten:=⟨0,3,0,0,0,0,0,0,1,0⟩
def symPs(a:Int)(l:List Ct):List Bk:= [⟨Gu a (Ei l),Gc,Fm (Dm l) l⟩,⟨Dc,Gd,(Cj (Dm l)).tb⟩]
def Mt(s:Ca):Ten:=⟨0,s.type,s.flags,0,0,s.size,s.link,0,s.align,s.ent⟩
def Eg(s:Ca):Bk:=⟨Mt s,s.name,s.data⟩
def Ri:Ten:=⟨0,0,0,0,0,0,0,0,0,0⟩
def Fw:Bk:=⟨Ri,Vc, []⟩
def Dv(o:Az):Nat:=1+o.secs.length+(relPs 0 o.secs o.secs.length).length+(groupPs 0 o.groups o.hasSig o.sig).length
def Ci(o:Az):List Bk:=Fw::o.secs.map Eg++relPs (Dv o) o.secs o.secs.length++groupPs (Dv o) o.groups o.hasSig o.sig++symPs (Dv o) o.syms
theorem Hy(o:Az):(Ci o).length=Dv o+2:=by
 unfold Ci;simp only[List.length_append,List.length_cons,List.length_map];rw[Jbv (Dv o) 0,Yp (Dv o) 0];unfold Dv symPs;simp only[List.length_cons,List.length_nil];omega
def Bh(l:List Bk):List Nm:=l.map (fun p=>lst p.name)++ [lst Gz]
def Mn(ns:List Nm):Bk:=⟨Dc,Vc,(Cj ns).tb⟩
def Cn(l:List Bk):List UInt8:=l.flatMap Bk.b
theorem Vo(l:List Bk)(p:Bk):Cn (l++ [p])=Cn l++p.b:=by simp[Cn]
def Qj(pl:List Nat)(i:Nat)(off:Nat)(p:Bk):Ten:=
 ⟨((pl.getD i 0:Nat):Int),p.h.b,p.h.c,p.h.d,if i=0 then p.h.e else 64+(off:Int),if i=0∨p.h.b=8 then p.h.f else(p.b.length:Int),p.h.g,p.h.h,p.h.i,p.h.j⟩
def Jdi(pl:List Nat)(l:List Bk)(i:Nat):List UInt8:=match l[i]? with
 |some p=>sectB (Qj pl i (Cn (l.take i)).length p)
 |none=> []
def Ip(pl:List Nat)(l:List Bk)(k:Nat):List UInt8:=(List.range k).flatMap (Jdi pl l)
theorem Un{pl:List Nat}{l:List Bk}{k:Nat}{p:Bk}(h:l[k]?=some p):Ip pl l (k+1)=Ip pl l k++sectB (Qj pl k (Cn (l.take k)).length p):=by
 unfold Ip;rw[List.range_succ,List.flatMap_append];simp[Jdi,h]
theorem Oc(pl:List Nat)(l:List Bk):∀k,k≤l.length→(Ip pl l k).length=64*k
 |0,_=>rfl
 |k+1,h=>by
  have ih:=Oc pl l k (by omega);rw[Un (Ae h),List.length_append,ih,Nj];omega
def layOf(l:List Bk):List UInt8:=
 let ns:=Bh l
 let a:=l++ [Mn ns]
 Nt (64+(Cn a).length) a.length (a.length - 1)++Cn a++Ip (placesOf ns) a a.length
def bytesOf(o:Az):List UInt8:=layOf (Ci o)
structure Ho(o:Az):Prop where
 nsec:o.secs.length≤40
 nsym:o.syms.length≤140
 ngrp:o.groups.length≤40
 nsig:o.sig.length≤16384
 secs:∀s∈o.secs,Bu s.type=true∧Bu s.flags=true∧Bu s.size=true∧Bu s.link=true∧Bu s.align=true∧Bu s.ent=true∧mayB (lst s.name)=true∧s.data.length≤20000∧s.rels.length≤80∧
  (s.type≠8→s.size=s.data.length)∧∀r∈s.rels,(Oh r).may∧ -9223372036854775808≤r.add∧r.add≤9223372036854775807
 grps:∀g∈o.groups,Bu g.sym=true∧g.members.length≤50∧∀m∈g.members,Bu m=true
 syms:∀s∈o.syms,mayB (lst s.name)=true∧Bu s.value=true∧Bu s.size=true∧0≤s.bind∧s.bind≤2∧0≤s.type∧s.type≤3∧ -1≤s.sec∧s.sec≤40
 sigs:∀n∈o.sig,Bu n=true
theorem Qo(ns:List Nm):(placesOf ns).length=ns.length:=by simp[placesOf]
theorem Ti(ns:List Nm)(m:Nm)(h:m= []∨m∈ns):placeOf ns m≤(Cj ns).tb.length:=by
 obtain⟨r,hr⟩:=Jr3 ns m h;have:((Cj ns).tb.drop (placeOf ns m)).length=m.length+(r.length+1):=by rw[hr];simp
 rw[List.length_drop]at this;omega
theorem Mv(ns:List Nm)(hl:ns.length≤10000)(h:∀n∈ns,mayB n=true):(Cj ns).tb.length≤330001:=by
 rcases Jhi ns with h1|⟨n,hn,h2⟩
 ·omega
 ·rw[h n hn]at h2;cases h2
theorem Uf(l:List Ct)(hl:l.length≤10000)(h:∀s∈l,mayB (lst s.name)=true):∀s∈l,placeOf (Dm l) (lst s.name)≤2147483647:=fun s hs=>by
 have h1:=Ti (Dm l) (lst s.name) (.inr (List.mem_map.2 ⟨s,hs,rfl⟩));have h2:=Mv (Dm l) (by unfold Dm;simpa using hl) fun n hn=>by
  obtain⟨y,hy,rfl⟩:=List.mem_map.1 hn;exact h y hy
 omega
def Tq(p:Bk):Prop:=p.b.length≤400000∧Bu p.h.b=true∧Bu p.h.c=true∧Bu p.h.d=true∧Bu p.h.e=true∧Bu p.h.f=true∧Bu p.h.g=true∧Bu p.h.h=true∧Bu p.h.i=true∧Bu p.h.j=true
theorem Ph(n:Nat)(h:n≤2147483647):Bu (n:Int)=true:=(Bv _).2 ⟨by omega,by omega⟩
theorem Kn{o:Az}(hl:Ho o):Dv o≤122:=by
 have h1:=Qw 0 o.secs o.secs.length;have h2:=Rk 0 o.groups o.hasSig o.sig;have h3:=hl.nsec;have h4:=hl.ngrp;unfold Dv;omega
theorem Xh{o:Az}(hl:Ho o):∀p∈Ci o,Tq p:=fun p hp=>by
 have ha:=Kn hl;unfold Ci at hp;simp only[List.mem_append,List.mem_cons,List.mem_map]at hp;rcases hp with(((rfl|⟨s,hs,rfl⟩)|hp)|hp)|hp
 ·exact⟨by simp[Fw],rfl,rfl,rfl,rfl,rfl,rfl,rfl,rfl,rfl⟩
 ·obtain⟨h1,h2,h3,h4,h5,h6,_,h8,_⟩:=hl.secs s hs;exact⟨by show s.data.length≤_;omega,h1,h2,rfl,rfl,h3,h4,rfl,h5,h6⟩
 ·unfold relPs at hp;obtain⟨i,hi,hp⟩:=List.mem_flatMap.1 hp;have hi2:=List.mem_range.1 hi;have h3:=hl.nsec;unfold Iz at hp;split at hp
  ·rename_i s hs;unfold Hx at hp;split at hp
   ·simp at hp
   ·simp only[List.mem_singleton]at hp;subst hp;have hr:=(hl.secs s (Ad hs)).2.2.2.2.2.2.2.2.1;refine⟨by show(Ft s.rels).length≤_;rw[Pd];omega,rfl,rfl,rfl,rfl,rfl,Ph _ (by omega),?_,rfl,rfl⟩;show Bu ((i:Int)+1)=true;exact(Bv _).2 ⟨by omega,by omega⟩
  ·simp at hp
 ·unfold groupPs at hp;rcases List.mem_append.1 hp with hp|hp
  ·obtain⟨g,hg,rfl⟩:=List.mem_map.1 hp;obtain⟨h1,h2,_⟩:=hl.grps g hg;exact⟨by show(Fb g.members).length≤_;rw[Nz];omega,rfl,rfl,rfl,rfl,rfl,Ph _ (by omega),h1,rfl,rfl⟩
  ·cases hs:o.hasSig with
   |false=>rw[hs]at hp;simp at hp
   |true=>
    rw[hs]at hp;simp only[cond_true,List.mem_singleton]at hp;subst hp;have h5:=Ue o.sig;have h6:=hl.nsig;exact⟨by show(Jk o.sig).length≤_;omega,rfl,rfl,rfl,rfl,rfl,Ph _ (by omega),rfl,rfl,rfl⟩
 ·unfold symPs at hp;simp only[List.mem_cons,List.not_mem_nil,or_false]at hp;have h5:=hl.nsym;rcases hp with rfl|rfl
  ·have h6:=Jfc o.syms;refine⟨by show(Fm _ o.syms).length≤_;rw[Tk];omega,rfl,rfl,rfl,rfl,rfl,?_,Ph _ (by omega),rfl,rfl⟩;show Bu ((Dv o:Int)+1)=true;exact(Bv _).2 ⟨by omega,by omega⟩
  ·have h6:=Mv (Dm o.syms) (by unfold Dm;simp;omega) fun n hn=>by
    obtain⟨y,hy,rfl⟩:=List.mem_map.1 hn;exact(hl.syms y hy).1
   exact⟨by show(Cj (Dm o.syms)).tb.length≤_;omega,rfl,rfl,rfl,rfl,rfl,rfl,rfl,rfl,rfl⟩
theorem Oz{o:Az}(hl:Ho o):∀p∈Ci o,mayB (lst p.name)=true:=fun p hp=>by
 unfold Ci at hp;simp only[List.mem_append,List.mem_cons,List.mem_map]at hp;rcases hp with(((rfl|⟨s,hs,rfl⟩)|hp)|hp)|hp
 ·rfl
 ·exact(hl.secs s hs).2.2.2.2.2.2.1
 ·unfold relPs at hp;obtain⟨i,hi,hp⟩:=List.mem_flatMap.1 hp;unfold Iz at hp;split at hp
  ·unfold Hx at hp;split at hp
   ·simp at hp
   ·simp only[List.mem_singleton]at hp;subst hp;show mayB (lst Ly)=true
    decide
  ·simp at hp
 ·unfold groupPs at hp;rcases List.mem_append.1 hp with hp|hp
  ·obtain⟨g,hg,rfl⟩:=List.mem_map.1 hp;show mayB (lst Li)=true
   decide
  ·cases hs:o.hasSig with
   |false=>rw[hs]at hp;simp at hp
   |true=>
    rw[hs]at hp;simp only[cond_true,List.mem_singleton]at hp;subst hp;show mayB (lst Qg)=true
    decide
 ·unfold symPs at hp;simp only[List.mem_cons,List.not_mem_nil,or_false]at hp;rcases hp with rfl|rfl
  ·show mayB (lst Gc)=true
   decide
  ·show mayB (lst Gd)=true
   decide
theorem Wv:∀(l:List Bk),(∀p∈l,Tq p)→(Cn l).length≤400000*l.length
 | [],_=>Af _
 |p::r,h=>by
  have ih:=Wv r fun q hq=>h q (List.mem_cons_of_mem _ hq);have h1:=(h p (List.mem_cons_self ..)).1;unfold Cn at ih⊢;rw[List.flatMap_cons,List.length_append,List.length_cons];omega
def allOf(o:Az):List Bk:=Ci o++ [Mn (Bh (Ci o))]
theorem Mz{o:Az}(hl:Ho o):∀n∈Bh (Ci o),mayB n=true:=fun n hn=>by
 unfold Bh at hn;rcases List.mem_append.1 hn with hn|hn
 ·obtain⟨p,hp,rfl⟩:=List.mem_map.1 hn;exact Oz hl p hp
 ·simp only[List.mem_singleton]at hn;subst hn
  decide
theorem Eu(l:List Bk):(Bh l).length=l.length+1:=by unfold Bh;simp
theorem Ng(o:Az):(allOf o).length=Dv o+3:=by unfold allOf;rw[List.length_append,Hy];rfl
theorem Jcy{o:Az}(hl:Ho o):∀p∈allOf o,Tq p:=fun p hp=>by
 unfold allOf at hp;rcases List.mem_append.1 hp with hp|hp
 ·exact Xh hl p hp
 ·simp only[List.mem_singleton]at hp;subst hp;have ha:=Kn hl;have h6:=Mv (Bh (Ci o)) (by rw[Eu,Hy];omega) (Mz hl);exact⟨by show(Cj _).tb.length≤_;omega,rfl,rfl,rfl,rfl,rfl,rfl,rfl,rfl,rfl⟩
theorem Jal{o:Az}(hl:Ho o)(i p:Nat)(h:(placesOf (Bh (Ci o)))[i]?=some p):p≤330001:=by
 unfold placesOf at h;rw[List.getElem?_map]at h;obtain⟨n,hn,rfl⟩:=Option.map_eq_some_iff.1 h;have ha:=Kn hl;have h6:=Mv (Bh (Ci o)) (by rw[Eu,Hy];omega) (Mz hl);have h7:=Ti (Bh (Ci o)) n (.inr (Ad hn));omega
theorem Rc{o:Az}(hl:Ho o)(i:Nat):(Cn ((allOf o).take i)).length≤50000000:=by
 have ha:=Kn hl;have h:=Wv ((allOf o).take i) fun p hp=>Jcy hl p (List.mem_of_mem_take hp);have h2:((allOf o).take i).length≤Dv o+3:=by rw[←Ng];simp;omega
 omega
theorem Jkm{o:Az}(hl:Ho o)(i:Nat)(p:Bk)(h:(allOf o)[i]?=some p):(Qj (placesOf (Bh (Ci o))) i (Cn ((allOf o).take i)).length p).may:=by
 obtain⟨h0,h1,h2,h3,h4,h5,h6,h7,h8,h9⟩:=Jcy hl p (Ad h);have hb:=Rc hl i;have hi:i < (placesOf (Bh (Ci o))).length:=by
  rw[Qo,Eu,Hy];have:=(Ab.1 h).1;rw[Ng]at this;omega
 have hpl:=Jal hl i _ (Ae hi);intro x hx;unfold Qj Ten.l at hx;simp only[List.mem_cons,List.not_mem_nil,or_false]at hx;rcases hx with rfl|rfl|rfl|rfl|rfl|rfl|rfl|rfl|rfl|rfl
 ·refine Ph _ ?_;rw[List.getD_eq_getElem?_getD,Ae hi];simp only[Option.getD_some];omega
 ·exact h1
 ·exact h2
 ·exact h3
 ·split
  ·exact h4
  ·exact(Bv _).2 ⟨by omega,by omega⟩
 ·split
  ·exact h5
  ·exact Ph _ (by omega)
 ·exact h6
 ·exact h7
 ·exact h8
 ·exact h9
theorem Pq(o:Az):bytesOf o=Nt (64+(Cn (allOf o)).length) (allOf o).length ((allOf o).length - 1)++Cn (allOf o)++Ip (placesOf (Bh (Ci o))) (allOf o) (allOf o).length:=rfl
theorem Fv{w:World}{base n:Nat}{T:TypeId}{p:Option Addr}{c:Nat}{xs:List Value}(h:w.ownsRow base T 1 (.slice p n c) n xs):p=none→c=0:=fun hp=>by
 subst hp;rcases h.2 with⟨h1,_⟩|⟨g,cap,cur,h1,_⟩<;>simp at h1
 exact h1.2
def Hg(l:List Ct):List ByteArray:=l.map Ct.name
theorem Jhh{x:Int}(h:x= -1):symIdx x=65521:=if_pos h
theorem Jjy{x:Int}(h:¬x= -1):symIdx x=x:=if_neg h
theorem Tx(wr:World)(o1 o2:Obj)(cs:Array Value)(T:TypeId)(base:Nat)(hb:base≤wr.heap.size)(q:Bool)(pv:List PV)(hl:pv.length=2)(hc:cs.toList=pvs q pv):
 (((wr.alloc o1).alloc o2).alloc (.cells cs T)).ownsRow base T 12 (.slice (some ⟨wr.heap.size+1+1,0,none⟩) 2 2) 2 (pvs q pv)∧Below wr.heap.size wr (((wr.alloc o1).alloc o2).alloc (.cells cs T)):=by
 have hs:((wr.alloc o1).alloc o2).heap.size=wr.heap.size+1+1:=by simp
 constructor
 ·rw[←hc,←hs];refine World.ownsRow_lit _ cs 2 (by rw[hs];omega) (by unfold maxLen;omega) ?_;have:cs.toList.length=24:=by rw[hc,Nb,hl]
  simpa using this
 ·exact(((Ag _ wr).alloc (Af _) _).alloc (by simp) _).alloc (by rw[hs];omega) _
theorem SlB.of_isL{w:World}{v:Value}{l:List UInt8}(h:IsL 1 Ds w v l):SlB w (fun b=>b < w.heap.size) v l:=by
 obtain⟨p,c,rfl,h1,h2,h3,h4⟩:=h;refine⟨p,c,rfl,h1,h2,h3,fun i x hx=>?_⟩;obtain⟨a,e,hc⟩:=h4.has i x hx;have:=Ao w _ hc;rw[Mx]at this;exact⟨a,e,hc,this⟩
theorem SlB.of_cells{w:World}{dp:Option Addr}{n c:Nat}{l:List UInt8}(h:Bg 1 Ds w dp l)(hn:l.length=n)(h1:n≤c)(h2:c≤maxLen)(h3:dp=none→c=0):SlB w (fun b=>b < w.heap.size) (.slice dp n c) l:=
 SlB.of_isL ⟨dp,c,by rw[hn],by omega,h2,h3,h⟩
theorem Tv(w:World)(g:Nat)(v0 v1 v2 v3 v4 v5 v6 v7 v8:Value)(T:TypeId)(h:w.heap[g]?=some (.cells #[v0,v1,v2,v3,v4,v5,v6,v7,v8] T (0,0))):
 w.cell? ⟨g,0,none⟩=some v0∧w.cell? ⟨g,1,none⟩=some v1∧w.cell? ⟨g,2,none⟩=some v2∧w.cell? ⟨g,3,none⟩=some v3∧w.cell? ⟨g,4,none⟩=some v4∧w.cell? ⟨g,5,none⟩=some v5∧w.cell? ⟨g,6,none⟩=some v6∧w.cell? ⟨g,7,none⟩=some v7∧w.cell? ⟨g,8,none⟩=some v8:=by
 refine⟨?_,?_,?_,?_,?_,?_,?_,?_,?_⟩<;>exact(Am w g _ _ _ (0,0) h).trans rfl
theorem Tg{wr w2 w4:World}{base:Nat}{T:TypeId}{q:Bool}{v v1 v2:Value}{pv pv2:List PV}{pd pd2:List Bk}{N n:Nat}
 (hpa:Bf wr (fun b=>0≤b∧some b≠v.ownBlock) pv pd)(hb:Below wr.heap.size wr w2)(hs:Bf w2 (fun b=>N≤b∧some b≠v2.ownBlock) pv2 pd2)(hlt:∀g,v.ownBlock=some g→g < N)
 (hown4:w4.ownsRow base T 12 v1 n (pvs q pv++pvs q pv2))(hn:n=pd.length+pd2.length)(hg:w2.grownBy w4 v.ownBlock)(hat:v1.ownBlock=v.ownBlock∨v1.ownBlock=some w2.heap.size):
 w4.ownsRow base T 12 v1 (pd++pd2).length (pvs q (pv++pv2))∧Bf w4 (fun b=>0≤b∧some b≠v1.ownBlock) (pv++pv2) (pd++pd2):=by
 subst hn;refine⟨by rw[Np,List.length_append];exact hown4,?_⟩;refine((hpa.below hb).append (hs.weaken fun b _ h=>⟨by omega,fun he=>?_⟩)).grown hg hat;have:=hlt b he.symm;omega
theorem Jcr{A B A':Option Nat}{N:Nat}(h:∀b,A=some b→B≠some b)(hB:∀b,B=some b→b < N)(hat:A'=A∨A'=some N):∀b,A'=some b→B≠some b:=fun b hb he=>by
 rcases hat with rfl|rfl
 ·exact h b hb he
 ·have h1:=hB b he;have h2:=Option.some.inj hb;omega
theorem Jcp{A B B':Option Nat}{N:Nat}(h:∀b,A=some b→B≠some b)(hA:∀b,A=some b→b < N)(hat:B'=B∨B'=some N):∀b,A=some b→B'≠some b:=fun b hb he=>by
 rcases hat with rfl|rfl
 ·exact h b hb he
 ·have h1:=hA b hb;have h2:=Option.some.inj he;omega
theorem Jcc{A B:Option Nat}(h:∀b,A=some b→B≠some b):B=none∨B≠A:=by
 cases hB:B with
 |none=>exact .inl rfl
 |some b=>exact .inr fun e=>h b e.symm hB
theorem Jp1{i:Nat}{t:Int}{f b E:Int}{c:Bool}(hc:(decide (0 < i)&& !decide (t=8))=c)(hE:(if i=0∨t=8 then f else b)=E):E=bif c then b else f:=by
 subst hc hE;by_cases h0:i=0
 ·subst h0;simp
 ·by_cases h8:t=8
  ·subst h8;simp
  ·rw[if_neg (by simp[h0,h8])];have:0 < i:=by omega
   simp[this,h8]
theorem Jkl{w:World}{base s n:Nat}{T:TypeId}{v v2:Value}{xs:List Value}(h:w.ownsRow base T s v n xs)(hlt:∀b,v2.ownBlock=some b→b < base):v.ownBlock=none∨v.ownBlock≠v2.ownBlock:=by
 cases hv:v.ownBlock with
 |none=>exact .inl rfl
 |some b=>
  refine .inr fun e=>?_;have h1:=(h.lt b hv).1;have h2:=hlt b e.symm;omega
theorem Ms(w:World)(g:Nat)(v0 v1 v2 v3 v4 v5 v6 v7 v8 v9:Value)(T:TypeId)(h:w.heap[g]?=some (.cells #[v0,v1,v2,v3,v4,v5,v6,v7,v8,v9] T (0,0))):
 w.cell? ⟨g,0,none⟩=some v0∧w.cell? ⟨g,1,none⟩=some v1∧w.cell? ⟨g,2,none⟩=some v2∧w.cell? ⟨g,3,none⟩=some v3∧w.cell? ⟨g,4,none⟩=some v4∧w.cell? ⟨g,5,none⟩=some v5∧w.cell? ⟨g,6,none⟩=some v6∧w.cell? ⟨g,7,none⟩=some v7∧w.cell? ⟨g,8,none⟩=some v8∧w.cell? ⟨g,9,none⟩=some v9:=by
 refine⟨?_,?_,?_,?_,?_,?_,?_,?_,?_,?_⟩<;>exact(Am w g _ _ _ (0,0) h).trans rfl
theorem Zw{w:World}{base n:Nat}{T:TypeId}{p0:Option Addr}{c0:Nat}{q:Bool}{pv:List PV}{pd:List Bk}{K:Nat→Prop}(h:w.ownsRow base T 12 (.slice p0 n c0) n (pvs q pv))(hpa:Bf w K pv pd)(hn:pd.length=n){k:Nat}(hk:k < n):
 ∃(g:Nat)(p:PV)(y:Bk),p0=some ⟨g,0,none⟩∧pd[k]?=some y∧p.h=y.h∧p.name=y.name∧SlB w K p.v y.b∧∀j,j < 12→w.cell? ⟨g,k*12+j,none⟩=(p.cells q)[j]?:=by
 rcases h.2 with⟨_,h0⟩|⟨g,cap,cur,he,_,_,_,_,_,_⟩
 ·omega
 ·simp only[Value.slice.injEq]at he;obtain⟨rfl,_,rfl⟩:=he;have hkd:k < pd.length:=by omega
  have hkv:k < pv.length:=by rw[hpa.1];exact hkd
  obtain⟨h1,h2,h3⟩:=hpa.2 k _ _ (Ae hkv) (Ae hkd);refine⟨g,pv[k],pd[k],rfl,Ae hkd,h1,h2,h3,fun j hj=>?_⟩;rw[h.cellAt (k*12+j) (by omega)];exact Jg2 q pv k _ j (Ae hkv) hj
theorem Jd{P:Program}(w:World){ops:Array Oper}{rest:List Oper}{o:Oper}{a:Act}{Q:Exit→Act→World→Prop}(hgd:o.guard=none)(s x:Operand)(t:TypeId)
 (ho:o.op= .call {callee:= .builtin .append,args:=#[s,x],argTypes:=#[t,t]})
 (base:Nat)(e:TypeId)(i:TypeInfo)(z:Value)(size bytes:Nat)(ht:P.underlying t=some (.slice e))(hi:P.info? e=some i)(hz:i.zero=some z)
 (hsize:i.size=size)(hby:i.bytes=bytes)(hzs:z.cells.size=size)(hsz:0 < size)
 (v:Value)(n:Nat)(xs:List Value)(hes:a.eval s=v)(hown:w.ownsRow base e size v n xs)(v2:Value)(m:Nat)(ys:List Value)(hex:a.eval x=v2)(b2:Nat)(hown2:w.ownsRow b2 e size v2 m ys)(h1:∀u∈ys,u.oneCell'=true)
 (h63:n+m≤maxLen)(hbytes:(n+m)*bytes≤140737488355328)(hbase:base≤w.heap.size)
 (h:∀v' w',w'.ownsRow base e size v' (n+m) (xs++ys)→w.grownBy w' v.ownBlock→(v'.ownBlock=v.ownBlock∨v'.ownBlock=some w.heap.size)→wpList P ops Q rest (a.put o.dst v') w'):wpList P ops Q (o::rest) a w:=by
 rcases hown2.2 with⟨rfl,hm⟩|⟨g,cap,cur,rfl,_,_,_,_,_,_⟩
 ·subst hm;obtain rfl:ys= []:=List.eq_nil_of_length_eq_zero (by simpa using hown2.1);exact wpList_append_own_none hgd s x t ho base e i size ht hi v n _ hes hown hex (h v w (by simpa using hown) (World.grownBy.refl w _) (.inl rfl))
 ·exact wpList_append_own_at w hgd s x t ho base e i z size bytes ht hi hz hsize hby hzs hsz v n _ hes hown ⟨g,0,none⟩ m cap ys hex hown2.1 (hown2.cells (g:=g) rfl) h1 h63 hbytes hbase
   fun v' w' k1 k2 _ k4=>h v' w' k1 k2 k4
end Go.Proofs.YteopgmieindojaaGreat
