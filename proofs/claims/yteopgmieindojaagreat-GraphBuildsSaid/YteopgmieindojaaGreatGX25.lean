/- Parts of a proof. -/
import Derived.Test.YteopgmieindojaaGreatGX08
set_option maxRecDepth 1000000
set_option maxHeartbeats 8000000
namespace Go.Proofs.YteopgmieindojaaGreat
open Go.RowKit
def eachB{α:Type}(f:Nat→α→Bool)(l:List α):Bool:=l.zipIdx.all fun p=>f p.2 p.1
theorem Lq{α:Type}{f:Nat→α→Bool}{l:List α}{i:Nat}{x:α}(h:l[i]?=some x)(hf:f i x=false):eachB f l=false:=by
 unfold eachB;rw[Bool.eq_false_iff];intro hc;have:=List.all_eq_true.1 hc (x,i) (List.mem_zipIdx_iff_getElem?.2 h);simp only at this;rw[hf]at this;cases this
theorem Kp{α:Type}{f:Nat→α→Bool}{l:List α}{i:Nat}{x:α}(h:l[i]?=some x):eachB f (l.take (i+1))=(eachB f (l.take i)&&f i x):=by
 have hi:=(Ab.1 h).1;have e0:(l.take i).length=i:=by simp;omega
 unfold eachB;rw[List.take_add_one,h];simp[List.zipIdx_append,e0]
theorem Ja5{α:Type}{f:Nat→α→Bool}{l:List α}:eachB f (l.take l.length)=eachB f l:=by rw[List.take_length]
def Jg4(ms:List Int)(k:Nat)(x:Int):Bool:=match k with
 |0=>true
 |j+1=>decide (ms.getD j 0 < x)
def Jb(ql:Nat)(ms:List Int)(k:Nat)(x:Int):Bool:=decide (1≤x)&&decide (x≤(ql:Int))&&Jg4 ms k x
theorem Vb{c d:Bool}(h:c= !d):d= !c:=by cases c<;>cases d<;>simp_all
def Fx(ql yl:Nat)(g:Cs):Bool:=decide (1≤g.sym)&&decide (g.sym < (yl:Int))&&decide (0 < g.members.length)&&eachB (Jb ql g.members) g.members
def symOK(o:Az)(k:Nat)(s:Ct):Bool:=match k with
 |0=>sym0B s
 |j+1=>match o.syms[j]? with
  |none=>true
  |some p=>symNB o.secs p.bind s
def Hp(yl:Nat)(x:Int):Bool:=decide (0≤x)&&decide (x < (yl:Int))
def headOK(o:Az):Bool:=decide (o.secs.length≤32)&&decide (1≤o.syms.length)&&decide (o.syms.length≤128)&&(o.hasSig || o.sig.length==0)
def shapeB(o:Az):Bool:=headOK o&&eachB (fun _=>Fx o.secs.length o.syms.length) o.groups&&eachB (secOK o.secs.length o.syms.length o.groups) o.secs&&eachB (symOK o) o.syms&&eachB (fun _=>Hp o.syms.length) o.sig
theorem Jkd(o:Az)(v0 v1 v2 v4:Value)(w:World)(hp:Dn w v0 v1 v2 v4 o)(hgl:o.groups.length≤1000000)(hml:∀g∈o.groups,g.members.length≤1000000):
 Calls Tryz.prog 32 #[Gq v0 v1 v2 o.hasSig v4] w fun e w'=>e= .returned (.bool (shapeB o))∧Below w.heap.size w w':=by
 have hb1:Below w.heap.size w (w.alloc (.cells #[v0,v1,v2,.bool o.hasSig,v4] 27)):=(Ag _ w).alloc (Af _) _;obtain⟨hq,hs,hg,hx⟩:=hp.below hb1;have hgI:=hg;obtain⟨p0,c0,rfl,q1,q2,_,hqh⟩:=hq;obtain⟨p1,c1,rfl,y1,y2,_,hyh⟩:=hs;obtain⟨p2,c2,rfl,g1,g2,_,hgh⟩:=hg;obtain⟨p4,c4,rfl,x1,x2,_,hxh⟩:=hx;have hH0:headOK o=false→shapeB o=false:=fun h=>by unfold shapeB;rw[h];rfl
 have hG0:∀(i:Nat)(g:Cs),o.groups[i]?=some g→Fx o.secs.length o.syms.length g=false→shapeB o=false:=fun i g h1 h2=>by
  unfold shapeB;rw[Lq (f:=fun _=>Fx o.secs.length o.syms.length) h1 h2];simp
 have hS0:∀(i:Nat)(s:Ca),o.secs[i]?=some s→secOK o.secs.length o.syms.length o.groups i s=false→shapeB o=false:=fun i g h1 h2=>by
  unfold shapeB;rw[Lq (f:=secOK o.secs.length o.syms.length o.groups) h1 h2];simp
 have hY0:∀(i:Nat)(s:Ct),o.syms[i]?=some s→symOK o i s=false→shapeB o=false:=fun i g h1 h2=>by
  unfold shapeB;rw[Lq (f:=symOK o) h1 h2];simp
 have hX0:∀(i:Nat)(x:Int),o.sig[i]?=some x→Hp o.syms.length x=false→shapeB o=false:=fun i g h1 h2=>by
  unfold shapeB;rw[Lq (f:=fun _=>Hp o.syms.length) h1 h2];simp
 have hT:headOK o=true→eachB (fun _=>Fx o.secs.length o.syms.length) o.groups=true→eachB (secOK o.secs.length o.syms.length o.groups) o.secs=true→eachB (symOK o) o.syms=true→eachB (fun _=>Hp o.syms.length) o.sig=true→shapeB o=true:=fun h1 h2 h3 h4 h5=>by
  unfold shapeB;rw[h1,h2,h3,h4,h5];rfl
 have hhd:headOK o=(decide (o.secs.length≤32)&&decide (1≤o.syms.length)&&decide (o.syms.length≤128)&&(o.hasSig || o.sig.length==0)):=rfl;have hso:∀(i:Nat)(s:Ct),o.syms[i]?=some s→∀W,Bg 9 Ev W p0 o.secs→Bg 6 Ie W p1 o.syms→Calls Tryz.prog 77 #[Gq (.slice p0 o.secs.length c0) (.slice p1 o.syms.length c1) (.slice p2 o.groups.length c2) o.hasSig (.slice p4 o.sig.length c4),.int .i64 (i:Int)] W fun e w'=>e= .returned (.bool (symOK o i s))∧Below W.heap.size W w':=fun i s hi W h1 h2=>by
  cases i with
  |zero=>exact Jfg _ _ _ _ p1 c1 o.syms s W h2 hi (Aw y1 y2)
  |succ k=>
   have hk:k < o.syms.length:=by have:=(Ab.1 hi).1;omega
   have e:symOK o (k+1) s=symNB o.secs (o.syms[k]).bind s:=by
    show(match o.syms[k]? with|none=>true|some p=>symNB o.secs p.bind s)=_;rw[Ae hk]
   rw[e,show((k+1:Nat):Int)=(k:Int)+1 by omega];exact Jfe _ _ _ p0 p1 c0 c1 k o.secs o.syms s _ W h1 h2 hi (Ae hk) (Aw q1 q2) (Aw y1 y2)
 have hse:∀(i:Nat)(s:Ca),o.secs[i]?=some s→∀W,Bg 9 Ev W p0 o.secs→IsL 2 Ew W (.slice p2 o.groups.length c2) o.groups→Calls Tryz.prog 76 #[Gq (.slice p0 o.secs.length c0) (.slice p1 o.syms.length c1) (.slice p2 o.groups.length c2) o.hasSig (.slice p4 o.sig.length c4),.int .i64 ((i:Int)+1)] W fun e w'=>e= .returned (.bool (secOK o.secs.length o.syms.length o.groups i s))∧Below W.heap.size W w':=fun i s hi W h1 h2=>
  Jfa _ _ _ p0 p1 c0 c1 i o.secs.length o.syms.length o.secs o.groups s W h1 h2 hi rfl (Aw q1 q2) (Aw y1 y2) hgl hml
 have a0:(w.alloc (.cells #[.slice p0 o.secs.length c0,.slice p1 o.syms.length c1,.slice p2 o.groups.length c2,.bool o.hasSig,.slice p4 o.sig.length c4] 27)).cell? ⟨w.heap.size,0,none⟩=some (.slice p0 o.secs.length c0):=by simp
 have a1:(w.alloc (.cells #[.slice p0 o.secs.length c0,.slice p1 o.syms.length c1,.slice p2 o.groups.length c2,.bool o.hasSig,.slice p4 o.sig.length c4] 27)).cell? ⟨w.heap.size,1,none⟩=some (.slice p1 o.syms.length c1):=by simp
 have a2:(w.alloc (.cells #[.slice p0 o.secs.length c0,.slice p1 o.syms.length c1,.slice p2 o.groups.length c2,.bool o.hasSig,.slice p4 o.sig.length c4] 27)).cell? ⟨w.heap.size,2,none⟩=some (.slice p2 o.groups.length c2):=by simp
 have a3:(w.alloc (.cells #[.slice p0 o.secs.length c0,.slice p1 o.syms.length c1,.slice p2 o.groups.length c2,.bool o.hasSig,.slice p4 o.sig.length c4] 27)).cell? ⟨w.heap.size,3,none⟩=some (.bool o.hasSig):=by simp
 have a4:(w.alloc (.cells #[.slice p0 o.secs.length c0,.slice p1 o.syms.length c1,.slice p2 o.groups.length c2,.bool o.hasSig,.slice p4 o.sig.length c4] 27)).cell? ⟨w.heap.size,4,none⟩=some (.slice p4 o.sig.length c4):=by simp
 have hqm:=Aw q1 q2;have hym:=Aw y1 y2;have hxm:=Aw x1 x2;unfold maxLen at hqm hym hxm;have hE0:∀(i:Nat)(g:Cs),o.groups[i]?=some g→eachB (fun _=>Fx o.secs.length o.syms.length) (o.groups.take (i+1))=(eachB (fun _=>Fx o.secs.length o.syms.length) (o.groups.take i)&&Fx o.secs.length o.syms.length g):=fun i g h=>Kp h;have hE1:∀(i:Nat)(s:Ca),o.secs[i]?=some s→eachB (secOK o.secs.length o.syms.length o.groups) (o.secs.take (i+1))=(eachB (secOK o.secs.length o.syms.length o.groups) (o.secs.take i)&&secOK o.secs.length o.syms.length o.groups i s):=fun i g h=>Kp h;have hE2:∀(i:Nat)(s:Ct),o.syms[i]?=some s→eachB (symOK o) (o.syms.take (i+1))=(eachB (symOK o) (o.syms.take i)&&symOK o i s):=fun i g h=>Kp h;have hE3:∀(i:Nat)(x:Int),o.sig[i]?=some x→eachB (fun _=>Hp o.syms.length) (o.sig.take (i+1))=(eachB (fun _=>Hp o.syms.length) (o.sig.take i)&&Hp o.syms.length x):=fun i g h=>Kp h;have HO:=Aa hso;have HSE:=Aa hse;have HH0:=Aa hH0;have HG0:=Aa hG0;have HS0:=Aa hS0;have HY0:=Aa hY0;have HX0:=Aa hX0;have HT:=Aa hT;have HE0:=Aa hE0;have HE1:=Aa hE1;have HE2:=Aa hE2;have HE3:=Aa hE3;have HQH:=Aa hqh;have HYH:=Aa hyh;have HGH:=Aa hgh;have HXH:=Aa hxh;have HGI:=Aa hgI;have HML:=Aa hml;clear hH0 hG0 hS0 hY0 hX0 hT hso hse hp hml hE0 hE1 hE2 hE3 hqh hyh hgh hxh hgI q1 q2 y1 y2 g1 g2 x1 x2;generalize hql:o.secs.length=ql at*;generalize hyl:o.syms.length=yl at*;generalize hgln:o.groups.length=gl at*;generalize hxl:o.sig.length=xl at*;generalize o.hasSig=sg at*;generalize headOK o=hd at*;generalize shapeB o=res at*;have HQL:=Aa hql;have HYL:=Aa hyl;have HGL:=Aa hgln;have HXL:=Aa hxl;have HHD:=Aa hhd;clear hql hyl hgln hxl hhd;go_enter Tryz.func32,Tryz.ntmps32;go_upto_region 1 with fail
 generalize hgb:w.heap.size=gb at*;generalize hW1:w.alloc (.cells #[.slice p0 ql c0,.slice p1 yl c1,.slice p2 gl c2,.bool sg,.slice p4 xl c4] 27)=W1 at*;go_cut [37] (fun s37 wx=>s37= .bool (!hd)∧W1=wx)
 case first=>
  clear HT HH0;by_cases t1:32 < ql
  ·have t1d:decide ((32:Int) < (ql:Int))=true:=Aj (by omega);obtain rfl:hd=false:=by rw[HHD.out,Ai (by omega)];rfl
   go_wp2_with fail
   go_meet;exact⟨rfl,rfl⟩
  have t1d:decide ((32:Int) < (ql:Int))=false:=Ai (by omega);by_cases t2:yl < 1
  ·have t2d:decide ((yl:Int) < 1)=true:=Aj (by omega);obtain rfl:hd=false:=by rw[HHD.out,Ai (p:=1≤yl) (by omega)];simp
   go_wp2_with fail
   go_meet;exact⟨rfl,rfl⟩
  have t2d:decide ((yl:Int) < 1)=false:=Ai (by omega);by_cases t3:128 < yl
  ·have t3d:decide ((128:Int) < (yl:Int))=true:=Aj (by omega);obtain rfl:hd=false:=by rw[HHD.out,Ai (p:=yl≤128) (by omega)];simp
   go_wp2_with fail
   go_meet;exact⟨rfl,rfl⟩
  have t3d:decide ((128:Int) < (yl:Int))=false:=Ai (by omega);have hhd2:hd=(sg || xl==0):=by rw[HHD.out,Aj (show ql≤32 by omega),Aj (show 1≤yl by omega),Aj (show yl≤128 by omega)];rfl
  have HHD2:=Aa hhd2;clear hhd2;cases sg
  ·rcases Nat.eq_zero_or_pos xl with h0|h0
   ·subst h0;obtain rfl:hd=true:=by rw[HHD2.out];rfl
    go_wp2_with fail
    go_meet;exact⟨rfl,rfl⟩
   ·have t4d:decide ((0:Int) < (xl:Int))=true:=Aj (by omega);obtain rfl:hd=false:=by rw[HHD2.out];simp;omega
    go_wp2_with fail
    go_meet;exact⟨rfl,rfl⟩
  ·obtain rfl:hd=true:=by rw[HHD2.out];rfl
   go_wp2_with fail
   go_meet;exact⟨rfl,rfl⟩
 case rest=>
 obtain⟨rfl,rfl⟩:=hcut;cases hd
 case false=>
  have HE:=Aa (HH0.out rfl);go_wp2_with fail
  go_ret;subst hgb;exact⟨by rw[HE.out];rfl,hb1⟩
 have hyl1:1≤yl:=by
  by_cases h:1≤yl
  ·exact h
  ·have hhd:=HHD.out;rw[Ai h]at hhd;simp at hhd
 have hyl2:yl≤128:=by
  by_cases h:yl≤128
  ·exact h
  ·have hhd:=HHD.out;rw[Ai h]at hhd;simp at hhd
 have hql2:ql≤32:=by
  by_cases h:ql≤32
  ·exact h
  ·have hhd:=HHD.out;rw[Ai h]at hhd;simp at hhd
 clear HHD HH0;have hgW:gb≤W1.heap.size:=by rw[←hgb];exact hb1.size
 go_wp2_with fail
 go_loopw [3] (fun r3 wr=>∃i:Nat,i≤gl∧r3= .int .i64 (i:Int)∧eachB (fun _=>Fx ql yl) (o.groups.take i)=true∧Below W1.heap.size W1 wr) (fun r3 _=>gl - (intOf r3).toNat)
 case atStart=>exact⟨0,Ak _,rfl,rfl,Ag _ _⟩
 case round=>
  obtain⟨i,hi,rfl,hall,hb⟩:=hrel;have HALL:=Aa hall;clear hall;have e0:=Ax hb a0;have e1:=Ax hb a1;have e2:=Ax hb a2;have e3:=Ax hb a3;have e4:=Ax hb a4;by_cases hlt:i < gl
  ·obtain⟨b,off,g,rfl,hgi,⟨⟨d0,hgs⟩,vm,d1,pm,cm,rfl,m1,m2,_,hmh⟩⟩:=HGH.out.at_ (i:=i) (by rw[HGL.out];exact hlt);have f0:=Ax hb d0;have f1:=Ax hb d1;have hgk:Fx ql yl g=(decide (1≤g.sym)&&decide (g.sym < (yl:Int))&&decide (0 < g.members.length)&&eachB (Jb ql g.members) g.members):=rfl;have hgm:g.members.length≤1000000:=HML.out g (Ad hgi);have HNO:=Aa (HG0.out i g hgi);have HST:=Aa (HE0.out i g hgi);have hET:eachB (Jb ql g.members) (g.members.take g.members.length)=eachB (Jb ql g.members) g.members:=Ja5;generalize hml:g.members.length=ml at*;have HMLN:=Aa hml;have HMH:=Aa hmh;have HGK:=Aa hgk;have HET:=Aa hET;have hI:(i:Int) < (gl:Int):=by omega
   have hI0:(0:Int)≤(i:Int):=by omega
   clear d0 d1 hmh hml hgk hgi hET;have hba:=hb.alloc hb.size (.cells #[.int .i64 g.sym,.slice pm ml cm] 100);have y0:=Ax hba a0;have y1:=Ax hba a1;have y2:=Ax hba a2;have y3:=Ax hba a3;have y4:=Ax hba a4;have r0:(wr.alloc (.cells #[.int .i64 g.sym,.slice pm ml cm] 100)).cell? ⟨wr.heap.size,0,none⟩=some (.int .i64 g.sym):=by simp
   have r1:(wr.alloc (.cells #[.int .i64 g.sym,.slice pm ml cm] 100)).cell? ⟨wr.heap.size,1,none⟩=some (.slice pm ml cm):=by simp
   go_upto_region 7 with fail
   generalize wr.alloc (.cells #[.int .i64 g.sym,.slice pm ml cm] 100)=wg at*;generalize wr.heap.size=gr at*;clear e0 e1 e2 e3 e4 f0 f1 hb;by_cases t1:g.sym < 1
   ·have HE:=Aa (HNO.out (by rw[HGK.out,Ai (by omega)];rfl));have t1d:decide (g.sym < 1)=true:=Aj t1;go_wp2_with fail
    go_ret;subst hgb;exact⟨by rw[HE.out];rfl,hb1.trans (hba.mono hgW)⟩
   have t1d:decide (g.sym < 1)=false:=Ai t1;by_cases t2:(yl:Int)≤g.sym
   ·have HE:=Aa (HNO.out (by rw[HGK.out,Ai (p:=g.sym < (yl:Int)) (by omega)];simp));have t2d:decide ((yl:Int)≤g.sym)=true:=Aj t2;go_wp2_with fail
    go_ret;subst hgb;exact⟨by rw[HE.out];rfl,hb1.trans (hba.mono hgW)⟩
   have t2d:decide ((yl:Int)≤g.sym)=false:=Ai t2;rcases Nat.eq_zero_or_pos ml with h0|h0
   ·subst h0;have HE:=Aa (HNO.out (by rw[HGK.out];simp));go_wp2_with fail
    go_ret;subst hgb;exact⟨by rw[HE.out];rfl,hb1.trans (hba.mono hgW)⟩
   have hm0:¬ml=0:=by omega
   have hm1:((ml:Int)==0)=false:=by simp;omega
   have hGT:Fx ql yl g=eachB (Jb ql g.members) g.members:=by rw[HGK.out,Aj (show 1≤g.sym by omega),Aj (show g.sym < (yl:Int) by omega),Aj h0];rfl
   have HGT:=Aa hGT;clear hGT;go_wp2_with fail
   clear y0 y1 y2 y3 y4 r0;go_loopw [5] (fun r5 wx=>∃k:Nat,k≤ml∧r5= .int .i64 (k:Int)∧eachB (Jb ql g.members) (g.members.take k)=true∧Below wg.heap.size wg wx) (fun r5 _=>ml - (intOf r5).toNat)
   case atStart=>exact⟨0,Ak _,rfl,rfl,Ag _ _⟩
   case round=>
    obtain⟨k,hk,rfl,hmall,hbk⟩:=hrel;have HMALL:=Aa hmall;clear hmall;have hbx:Below W1.heap.size W1 wr:=hba.trans (hbk.mono hba.size);have r1':=Ax hbk r1;have e0:=Ax hbx a0;have hby:Below gb w wr:=hb1.trans (hbx.mono hgW);by_cases hkl:k < ml
    ·obtain⟨b2,off2,x,rfl,hxi,hxe⟩:=HMH.out.at_ (i:=k) (by rw[HMLN.out];exact hkl);have f0:=Ax hbx hxe.1;rw[Nat.mul_one]at f0;have hJ:(k:Int) < (ml:Int):=by omega
     have hJ0:(0:Int)≤(k:Int):=by omega
     have HXI:=Aa hxi;obtain⟨c,hc⟩:∃c,c= !(Jb ql g.members k x):=⟨_,rfl⟩
     have HC:=Aa hc;clear hxe;go_upto_region 12 with fail
     go_cut [108] (fun s108 wx=>s108= .bool c∧Below wg.heap.size wg wx)
     case first=>
      have hmk:Jb ql g.members k x=(decide (1≤x)&&decide (x≤(ql:Int))&&Jg4 g.members k x):=rfl;rw[hmk]at hc;clear hmk;by_cases t1:x < 1
      ·have t1d:decide (x < 1)=true:=Aj t1;obtain rfl:c=true:=by rw[hc,Ai (by omega)];rfl
       clear hc t1;go_quiet (fail);go_wp2_with fail
       go_meet;exact⟨rfl,Bq hbk _⟩
      have t1d:decide (x < 1)=false:=Ai t1;by_cases t2:(ql:Int) < x
      ·have t2d:decide ((ql:Int) < x)=true:=Aj t2;obtain rfl:c=true:=by rw[hc,Ai (p:=x≤(ql:Int)) (by omega)];simp
       clear hc t1 t2;go_quiet (fail);go_wp2_with fail
       go_meet;exact⟨rfl,Bq hbk _⟩
      have t2d:decide ((ql:Int) < x)=false:=Ai t2;rw[Aj (show 1≤x by omega),Aj (show x≤(ql:Int) by omega)]at hc;clear t1 t2;cases k with
      |zero=>
       obtain rfl:c=false:=hc;simp only[Nat.add_zero]at f0;have hz:(0:Int) < (ml:Int):=by omega
       go_quiet (fail);go_wp2_with fail
       go_meet;exact⟨rfl,Bq hbk _⟩
      |succ j=>
       obtain⟨b3,off3,y,hpq,hyi,hye⟩:=HMH.out.at_ (i:=j) (by rw[HMLN.out];omega);simp only[Option.some.injEq,Addr.mk.injEq,and_true]at hpq;obtain⟨rfl,rfl⟩:=hpq;have f3:=Ax hbx hye.1;rw[Nat.mul_one]at f3;have hgd:g.members.getD j 0=y:=by simp[List.getD,hyi]
       have hk1:((j:Int)+1 - 1)=(j:Int):=by omega
       have hk0:(0:Int)≤(j:Int):=by omega
       have hkm:(j:Int) < (ml:Int):=by omega
       have hk2:(0:Int) < (j:Int)+1:=by omega
       have hc2:c= !(decide (y < x)):=by rw[hc,←hgd];rfl
       clear hye hyi hgd hc;by_cases t3:x≤y
       ·have t3d:decide (x≤y)=true:=Aj t3;obtain rfl:c=true:=by rw[hc2,Ai (by omega)];rfl
        clear hc2 t3;go_quiet (fail);go_wp2_with fail
        go_meet;exact⟨rfl,Bq hbk _⟩
       ·have t3d:decide (x≤y)=false:=Ai t3;obtain rfl:c=false:=by rw[hc2,Aj (by omega)];rfl
        clear hc2 t3;go_quiet (fail);go_wp2_with fail
        go_meet;exact⟨rfl,Bq hbk _⟩
     case rest=>
      obtain⟨rfl,hbk2⟩:=hcut;cases c with
      |true=>
       have hf:Jb ql g.members k x=false:=Vb HC.out;have HE:=Aa (HNO.out (by rw[HGT.out];exact Lq HXI.out hf));have hbz:Below gb w wc:=hb1.trans ((hba.trans (hbk2.mono hba.size)).mono hgW);clear hf;go_wp2_with fail
       go_ret;subst hgb;exact⟨by rw[HE.out];rfl,hbz⟩
      |false=>
       have hf:Jb ql g.members k x=true:=Vb HC.out;have HE:Hid (eachB (Jb ql g.members) (g.members.take (k+1))=true):=Aa (by rw[Kp HXI.out,HMALL.out,hf];rfl);clear hf;go_wp2_with fail
       go_roundw
       case rel=>exact⟨k+1,hkl,by go_num,HE.out,hbk2⟩
       case measure=>simp[intOf];omega
    ·have hJ:¬(k:Int) < (ml:Int):=by omega
     have HE:Hid (eachB (fun _=>Fx ql yl) (o.groups.take (i+1))=true):=Aa (by
      have e:k=ml:=by omega
      have:=HMALL.out;rw[e,HET.out]at this
      rw[HST.out,HALL.out,HGT.out,this];rfl)
     go_wp2_with fail
     go_roundw
     case rel=>exact⟨i+1,hlt,by go_num,HE.out,hbx⟩
     case measure=>simp[intOf];omega
  ·have hI:¬(i:Int) < (gl:Int):=by omega
   have HG1:Hid (eachB (fun _=>Fx ql yl) o.groups=true):=Aa (by
    have e:i=gl:=by omega
    have:=HALL.out;rw[e,List.take_of_length_le (by rw[HGL.out];exact Af _)]at this
    exact this)
   clear HALL HG0 HE0 hi hlt;go_wp2_with fail
   clear e0 e1 e2 e3 e4;go_loopw [6] (fun r6 wx=>∃k:Nat,k≤ql∧r6= .int .i64 ((k:Int)+1)∧eachB (secOK ql yl o.groups) (o.secs.take k)=true∧Below W1.heap.size W1 wx) (fun r6 _=>ql+1 - (intOf r6).toNat)
   case atStart=>exact⟨0,Ak _,rfl,rfl,hb⟩
   case round=>
    clear hb;obtain⟨k,hk,rfl,hall,hb⟩:=hrel;have HALL:=Aa hall;clear hall;have e0:=Ax hb a0;have e1:=Ax hb a1;have e2:=Ax hb a2;have e3:=Ax hb a3;have e4:=Ax hb a4;by_cases hlt:k < ql
    ·obtain⟨s,hks⟩:∃s,o.secs[k]?=some s:=⟨_,Ae (by rw[HQL.out];exact hlt)⟩
     have HCL:=Aa (HSE.out k s hks wr (HQH.out.below Ev.keeps hb) (HGI.out.below Ew.keeps hb));have HNO:=Aa (HS0.out k s hks);have HST:=Aa (HE1.out k s hks);have hJ:(k:Int) < (ql:Int):=by omega
     have hJ0:(k:Int)+1≤(ql:Int):=by omega
     clear hks;generalize secOK ql yl o.groups k s=c at*;go_wp2_with fail
     refine HCL.out.mono ?_;rintro e w2 ⟨rfl,hbb⟩;have hb2:=hb.trans (hbb.mono hb.size);clear hbb hb e0 e1 e2 e3 e4 HCL;cases c with
     |false=>
      have HE:=Aa (HNO.out rfl);have hbz:Below gb w w2:=hb1.trans (hb2.mono hgW);go_wp2_with fail
      go_ret;subst hgb;exact⟨by rw[HE.out];rfl,hbz⟩
     |true=>
      have HE:Hid (eachB (secOK ql yl o.groups) (o.secs.take (k+1))=true):=Aa (by rw[HST.out,HALL.out];rfl);go_wp2_with fail
      go_roundw
      case rel=>exact⟨k+1,hlt,by go_num,HE.out,hb2⟩
      case measure=>simp[intOf];omega
    ·have hJ:¬(k:Int) < (ql:Int):=by omega
     have hJ0:¬(k:Int)+1≤(ql:Int):=by omega
     have HS1:Hid (eachB (secOK ql yl o.groups) o.secs=true):=Aa (by
      have e:k=ql:=by omega
      have:=HALL.out;rw[e,List.take_of_length_le (by rw[HQL.out];exact Af _)]at this
      exact this)
     clear HALL HS0 HE1 hk hlt HSE;go_wp2_with fail
     clear e0 e1 e2 e3 e4;go_loopw [8] (fun r8 wx=>∃k:Nat,k≤yl∧r8= .int .i64 (k:Int)∧eachB (symOK o) (o.syms.take k)=true∧Below W1.heap.size W1 wx) (fun r8 _=>yl - (intOf r8).toNat)
     case atStart=>exact⟨0,Ak _,rfl,rfl,hb⟩
     case round=>
      clear hb;obtain⟨k,hk,rfl,hall,hb⟩:=hrel;have HALL:=Aa hall;clear hall;have e0:=Ax hb a0;have e1:=Ax hb a1;have e2:=Ax hb a2;have e3:=Ax hb a3;have e4:=Ax hb a4;by_cases hlt:k < yl
      ·obtain⟨s,hks⟩:∃s,o.syms[k]?=some s:=⟨_,Ae (by rw[HYL.out];exact hlt)⟩
       have HCL:=Aa (HO.out k s hks wr (HQH.out.below Ev.keeps hb) (HYH.out.below Ie.keeps hb));have HNO:=Aa (HY0.out k s hks);have HST:=Aa (HE2.out k s hks);have hJ:(k:Int) < (yl:Int):=by omega
       clear hks;generalize symOK o k s=c at*;go_wp2_with fail
       refine HCL.out.mono ?_;rintro e w2 ⟨rfl,hbb⟩;have hb2:=hb.trans (hbb.mono hb.size);clear hbb hb e0 e1 e2 e3 e4 HCL;cases c with
       |false=>
        have HE:=Aa (HNO.out rfl);have hbz:Below gb w w2:=hb1.trans (hb2.mono hgW);go_wp2_with fail
        go_ret;subst hgb;exact⟨by rw[HE.out];rfl,hbz⟩
       |true=>
        have HE:Hid (eachB (symOK o) (o.syms.take (k+1))=true):=Aa (by rw[HST.out,HALL.out];rfl);go_wp2_with fail
        go_roundw
        case rel=>exact⟨k+1,hlt,by go_num,HE.out,hb2⟩
        case measure=>simp[intOf];omega
      ·have hJ:¬(k:Int) < (yl:Int):=by omega
       have HY1:Hid (eachB (symOK o) o.syms=true):=Aa (by
        have e:k=yl:=by omega
        have:=HALL.out;rw[e,List.take_of_length_le (by rw[HYL.out];exact Af _)]at this
        exact this)
       clear HALL HY0 HE2 hk hlt HO;go_wp2_with fail
       clear e0 e1 e2 e3 e4;go_loopw [10] (fun r10 wx=>∃k:Nat,k≤xl∧r10= .int .i64 (k:Int)∧eachB (fun _=>Hp yl) (o.sig.take k)=true∧Below W1.heap.size W1 wx) (fun r10 _=>xl - (intOf r10).toNat)
       case atStart=>exact⟨0,Ak _,rfl,rfl,hb⟩
       case round=>
        clear hb;obtain⟨k,hk,rfl,hall,hb⟩:=hrel;have HALL:=Aa hall;clear hall;have e1:=Ax hb a1;have e4:=Ax hb a4;by_cases hlt:k < xl
        ·obtain⟨b5,off5,x,rfl,hxi,hxe⟩:=HXH.out.at_ (i:=k) (by rw[HXL.out];exact hlt);have f0:=Ax hb hxe.1;rw[Nat.mul_one]at f0;have hJ:(k:Int) < (xl:Int):=by omega
         have hJ0:(0:Int)≤(k:Int):=by omega
         have HNO:=Aa (HX0.out k x hxi);have HST:=Aa (HE3.out k x hxi);obtain⟨c,hc⟩:∃c,c= !(Hp yl x):=⟨_,rfl⟩
         have HC:=Aa hc;have hsk:Hp yl x=(decide (0≤x)&&decide (x < (yl:Int))):=rfl;rw[hsk]at hc;clear hxe hxi hsk;go_upto_region 29 with fail
         go_cut [156] (fun s156 wx=>s156= .bool c∧Below W1.heap.size W1 wx)
         case first=>
          by_cases t1:x < 0
          ·have t1d:decide (x < 0)=true:=Aj t1;obtain rfl:c=true:=by rw[hc,Ai (by omega)];rfl
           clear hc t1;go_quiet (fail);go_wp2_with fail
           go_meet;exact⟨rfl,Bq hb _⟩
          have t1d:decide (x < 0)=false:=Ai t1;by_cases t2:(yl:Int)≤x
          ·have t2d:decide ((yl:Int)≤x)=true:=Aj t2;obtain rfl:c=true:=by rw[hc,Ai (p:=x < (yl:Int)) (by omega)];simp
           clear hc t1 t2;go_quiet (fail);go_wp2_with fail
           go_meet;exact⟨rfl,Bq hb _⟩
          ·have t2d:decide ((yl:Int)≤x)=false:=Ai t2;obtain rfl:c=false:=by rw[hc,Aj (show 0≤x by omega),Aj (show x < (yl:Int) by omega)];rfl
           clear hc t1 t2;go_quiet (fail);go_wp2_with fail
           go_meet;exact⟨rfl,Bq hb _⟩
         case rest=>
          obtain⟨rfl,hb2⟩:=hcut;cases c with
          |true=>
           have hf:Hp yl x=false:=Vb HC.out;have HE:=Aa (HNO.out hf);have hbz:Below gb w wc:=hb1.trans (hb2.mono hgW);clear hf;go_wp2_with fail
           go_ret;subst hgb;exact⟨by rw[HE.out];rfl,hbz⟩
          |false=>
           have hf:Hp yl x=true:=Vb HC.out;have HE:Hid (eachB (fun _=>Hp yl) (o.sig.take (k+1))=true):=Aa (by rw[HST.out,HALL.out,hf];rfl);clear hf;go_wp2_with fail
           go_roundw
           case rel=>exact⟨k+1,hlt,by go_num,HE.out,hb2⟩
           case measure=>simp[intOf];omega
        ·have hJ:¬(k:Int) < (xl:Int):=by omega
         have hE:eachB (fun _=>Hp yl) o.sig=true:=by
          have e:k=xl:=by omega
          have:=HALL.out;rw[e,List.take_of_length_le (by rw[HXL.out];exact Af _)]at this;exact this
         have HE:=Aa (HT.out (by trivial) HG1.out HS1.out HY1.out hE);have hbz:Below gb w wr:=hb1.trans (hb.mono hgW);clear hE;go_wp2_with fail
         go_ret;subst hgb;exact⟨by rw[HE.out];rfl,hbz⟩
end Go.Proofs.YteopgmieindojaaGreat
