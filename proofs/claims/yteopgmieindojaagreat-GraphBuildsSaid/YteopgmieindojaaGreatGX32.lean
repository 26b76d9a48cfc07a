/- Parts of a proof. -/
import Derived.Test.YteopgmieindojaaGreatGX31
import Derived.Deep.QuietTactic
import Derived.BigQuiet
import Derived.Deep.DeepCutAuto
import Derived.Test.YteopgmieindojaaGreatGX03
import Derived.Test.YteopgmieindojaaGreatGX16
import Derived.Test.YteopgmieindojaaGreatGX26
import Derived.Test.YteopgmieindojaaGreatGX04
import Derived.Test.YteopgmieindojaaGreatChecked
import Derived.LoopTactic
import Derived.Lib.Hide
import Derived.Outline
import Derived.Test.YteopgmieindojaaGreatGX01
set_option maxRecDepth 1000000
set_option maxHeartbeats 8000000
namespace Go.Proofs.YteopgmieindojaaGreat
open Go.RowKit
def Sv(s:Ca):Prop:=s.data.length≤20000∧s.rels.length≤80
theorem Oy{α:Type}{P:α→Prop}{l:List α}{i:Nat}{x:α}(h:∀y∈l.take i,P y)(hx:l[i]?=some x)(hp:P x):∀y∈l.take (i+1),P y:=fun y hy=>by
 rw[List.take_add_one,hx]at hy;rcases List.mem_append.1 hy with hy|hy
 ·exact h y hy
 ·simp at hy;subst hy;exact hp
theorem Jks(o:Az)(v0 v1 v2 v4:Value)(w:World)(hp:Dn w v0 v1 v2 v4 o):
 Calls Tryz.prog 9 #[Gq v0 v1 v2 o.hasSig v4] w fun e w'=>(∃r:Int,e= .returned (.int .i64 r)∧(r=0∨(r=1∧Gn o)))∧Below w.heap.size w w':=by
 obtain⟨hp0,hp1,hp2,hp4⟩:=hp;obtain⟨p0,c0,rfl,q01,q02,_,hqh⟩:=hp0;obtain⟨p1,c1,rfl,y01,y02,_,hyh⟩:=hp1;obtain⟨p2,c2,rfl,g01,g02,_,hgh⟩:=hp2;obtain⟨p4,c4,rfl,x01,x02,_,hxh⟩:=hp4;have hb1:Below w.heap.size w (w.alloc (.cells #[.slice p0 o.secs.length c0,.slice p1 o.syms.length c1,.slice p2 o.groups.length c2,.bool o.hasSig,.slice p4 o.sig.length c4] 27)):=(Ag _ w).alloc (Af _) _;have hx1:=Ah w (.cells #[.slice p0 o.secs.length c0,.slice p1 o.syms.length c1,.slice p2 o.groups.length c2,.bool o.hasSig,.slice p4 o.sig.length c4] 27);have hqm:=Aw q01 q02;have hym:=Aw y01 y02;have hgm:=Aw g01 g02;have hxm:=Aw x01 x02;have HQ:=Aa (hqh.below Ev.keeps hb1);have HG:=Aa (hgh.below Ew.keeps hb1);unfold maxLen at hqm hym hgm hxm;clear hqh hyh hgh hxh q01 q02 y01 y02 g01 g02 x01 x02;have hend:o.secs.length≤40→o.syms.length≤140→o.groups.length≤40→o.sig.length≤200→(∀s∈o.secs.take o.secs.length,Sv s)→(∀g∈o.groups.take o.groups.length,g.members.length≤50)→Gn o:=fun a b c d e f=>by
  rw[List.take_length]at e f;exact⟨a,b,c,by omega,e,f⟩
 have HE:=Aa hend;clear hend;generalize hql:o.secs.length=ql at*;generalize hyl:o.syms.length=yl at*;generalize hgln:o.groups.length=gl at*;generalize hxl:o.sig.length=xl at*;generalize o.hasSig=sg at*;have HQL:=Aa hql;have HGL:=Aa hgln;clear hql hyl hgln hxl;go_enter Tryz.func9,Tryz.ntmps9;go_upto_region 1 with fail
 generalize w.alloc (.cells #[.slice p0 ql c0,.slice p1 yl c1,.slice p2 gl c2,.bool sg,.slice p4 xl c4] 27)=W1 at*;obtain⟨⟨a0,a1,a2,a3,a4⟩,_⟩:=Ga _ _ _ _ _ _ _ _ hx1;clear hx1;have hbs:=hb1.size;generalize hgb:w.heap.size=gb at*;go_cut [27] (fun s27 wx=>∃c,s27= .bool c∧(c=false→ql≤40∧yl≤140∧gl≤40∧xl≤200)∧W1=wx)
 case first=>
  by_cases t1:40 < ql
  ·have t1d:decide ((40:Int) < (ql:Int))=true:=Aj (by omega);go_wp2_with fail
   go_meet;exact⟨true,rfl,(fun h=>by cases h),rfl⟩
  have t1d:decide ((40:Int) < (ql:Int))=false:=Ai (by omega);by_cases t2:140 < yl
  ·have t2d:decide ((140:Int) < (yl:Int))=true:=Aj (by omega);go_wp2_with fail
   go_meet;exact⟨true,rfl,(fun h=>by cases h),rfl⟩
  have t2d:decide ((140:Int) < (yl:Int))=false:=Ai (by omega);by_cases t3:40 < gl
  ·have t3d:decide ((40:Int) < (gl:Int))=true:=Aj (by omega);go_wp2_with fail
   go_meet;exact⟨true,rfl,(fun h=>by cases h),rfl⟩
  have t3d:decide ((40:Int) < (gl:Int))=false:=Ai (by omega);by_cases t4:200 < xl
  ·have t4d:decide ((200:Int) < (xl:Int))=true:=Aj (by omega);go_wp2_with fail
   go_meet;exact⟨true,rfl,(fun h=>by cases h),rfl⟩
  have t4d:decide ((200:Int) < (xl:Int))=false:=Ai (by omega);go_wp2_with fail
  go_meet;exact⟨false,rfl,(fun _=>by omega),rfl⟩
 case rest=>
 obtain⟨c,rfl,hc,rfl⟩:=hcut;cases c with
 |true=>
  go_wp2_with fail
  go_ret;subst hgb;exact⟨⟨0,rfl,.inl rfl⟩,hb1⟩
 |false=>
  obtain⟨m1,m2,m3,m4⟩:=hc rfl;have HE2:=Aa (HE.out m1 m2 m3 m4);clear hc HE;go_wp2_with fail
  go_loopw [3,4] (fun r3 r4 wr=>∃(i:Nat)(n:Nat),i≤ql∧r4= .int .i64 (i:Int)∧r3= .int .i64 (n:Int)∧n≤20000*i∧(∀s∈o.secs.take i,Sv s)∧W1=wr) (fun _ r4 _=>ql - (intOf r4).toNat)
  case atStart=>exact⟨0,0,Ak _,rfl,rfl,Ak _,(fun _ h=>by simp at h),rfl⟩
  case round=>
   obtain⟨i,n,hi,rfl,rfl,hn,hall,rfl⟩:=hrel;have HALL:=Aa hall;clear hall;by_cases hlt:i < ql
   ·obtain⟨b,off,s,rfl,hs,⟨_,_,_,_,_,_,_,⟨v7,e7,q7,d7,rfl,h71,h72,_⟩,⟨v8,e8,q8,d8,rfl,h81,h82,_⟩⟩⟩:=HQ.out.at_ (i:=i) (by rw[HQL.out];exact hlt);have HN:=Aa fun(h:Sv s)=>Oy HALL.out hs h;have hsd:Sv s=(s.data.length≤20000∧s.rels.length≤80):=rfl;rw[hsd]at HN;have hJ:(i:Int) < (ql:Int):=by omega
    have hJ0:(0:Int)≤(i:Int):=by omega
    clear hs hsd;generalize s.data.length=dl at*;generalize s.rels.length=rl at*;unfold maxLen at h72 h82;by_cases t1:20000 < dl
    ·have t1d:decide ((20000:Int) < (dl:Int))=true:=Aj (by omega);go_wp2_with fail
     go_ret;subst hgb;exact⟨⟨0,rfl,.inl rfl⟩,hb1⟩
    have t1d:decide ((20000:Int) < (dl:Int))=false:=Ai (by omega);by_cases t2:80 < rl
    ·have t2d:decide ((80:Int) < (rl:Int))=true:=Aj (by omega);go_wp2_with fail
     go_ret;subst hgb;exact⟨⟨0,rfl,.inl rfl⟩,hb1⟩
    have t2d:decide ((80:Int) < (rl:Int))=false:=Ai (by omega);have HN2:=Aa (HN.out ⟨by omega,by omega⟩);go_wp2_with fail
    go_roundw
    case rel=>exact⟨i+1,n+dl,hlt,by go_num,by go_num,by omega,HN2.out,by trivial⟩
    case measure=>simp[intOf];omega
   ·have hJ:¬(i:Int) < (ql:Int):=by omega
    obtain rfl:i=ql:=by omega
    have HE3:=Aa (HE2.out HALL.out);clear HE2 HALL HQ;go_wp2_with fail
    go_loopw [5] (fun r5 wr=>∃(k:Nat),k≤gl∧r5= .int .i64 (k:Int)∧(∀g∈o.groups.take k,g.members.length≤50)∧W1=wr) (fun r5 _=>gl - (intOf r5).toNat)
    case atStart=>exact⟨0,Ak _,rfl,(fun _ h=>by simp at h),rfl⟩
    case round=>
     obtain⟨k,hk,rfl,hall,rfl⟩:=hrel;have HALL:=Aa hall;clear hall;by_cases hlt:k < gl
     ·obtain⟨b,off,g,rfl,hg,⟨_,v7,e7,q7,d7,rfl,h71,h72,_⟩⟩:=HG.out.at_ (i:=k) (by rw[HGL.out];exact hlt);have HN:=Aa fun(h:g.members.length≤50)=>Oy HALL.out hg h;have hJ:(k:Int) < (gl:Int):=by omega
      have hJ0:(0:Int)≤(k:Int):=by omega
      clear hg;generalize g.members.length=ml at*;unfold maxLen at h72;by_cases t1:50 < ml
      ·have t1d:decide ((50:Int) < (ml:Int))=true:=Aj (by omega);have t1e:(50:Int) < (ml:Int):=by omega
       go_wp2_with fail
       go_ret;subst hgb;exact⟨⟨0,rfl,.inl rfl⟩,hb1⟩
      have t1d:decide ((50:Int) < (ml:Int))=false:=Ai (by omega);have t1e:¬(50:Int) < (ml:Int):=by omega
      have HN2:=Aa (HN.out (by omega));go_wp2_with fail
      go_roundw
      case rel=>exact⟨k+1,hlt,by go_num,HN2.out,by trivial⟩
      case measure=>simp[intOf];omega
     ·have hJ:¬(k:Int) < (gl:Int):=by omega
      obtain rfl:k=gl:=by omega
      have HE4:=Aa (HE3.out HALL.out);by_cases t1:40000 < n
      ·have t1e:(40000:Int) < (n:Int):=by omega
       go_wp2_with fail
       go_ret;subst hgb;exact⟨⟨0,rfl,.inl rfl⟩,hb1⟩
      ·have t1e:¬(40000:Int) < (n:Int):=by omega
       go_wp2_with fail
       go_ret;subst hgb;exact⟨⟨1,rfl,.inr ⟨rfl,HE4.out⟩⟩,hb1⟩
theorem Jpx(p:Option Addr)(c:Nat)(l:List Az)(w:World)(h:Bg 5 Cg w p l)(hln:l.length≤maxLen):
 Calls Tryz.prog 18 #[.slice p l.length c] w fun e w'=>(∃r:Int,e= .returned (.int .i64 r)∧(r=0∨(r=1∧l.length≤10∧∀o∈l,Gn o)))∧Below w.heap.size w w':=by
 have hb0:Below w.heap.size w w:=Ag _ w;have HH:=Aa fun W (hW:Below w.heap.size w W)=>h.below Cg.keeps hW;have HE:Hid (∀n,n=l.length→n≤10→(∀o∈l.take n,Gn o)→l.length≤10∧∀o∈l,Gn o):=Aa fun n hn h1 h2=>by
  subst hn;rw[List.take_length]at h2;exact⟨h1,h2⟩
 have hnf:=hln;unfold maxLen at hnf;obtain⟨ln,hL⟩:∃ln,ln=l.length:=⟨_,rfl⟩
 have HLN:=Aa hL;rw[←hL]at hnf⊢;clear h hln hL;have HB0:=Aa hb0;clear hb0;go_enter Tryz.func18,Tryz.ntmps18;by_cases h10:10 < ln
 ·have hI:(10:Int) < (ln:Int):=by omega
  go_wp2_with fail
  go_ret;exact⟨⟨0,rfl,.inl rfl⟩,HB0.out⟩
 have hI:¬(10:Int) < (ln:Int):=by omega
 generalize hgb:w.heap.size=gb at*;have HGB:=Aa hgb;clear hgb;go_wp2_with fail
 go_loopw [3,4] (fun r3 r4 wr=>∃i n:Nat,i≤ln∧r4= .int .i64 (i:Int)∧r3= .int .i64 (n:Int)∧n≤1000000*i∧(∀o∈l.take i,Gn o)∧Below gb w wr) (fun _ r4 _=>ln - (intOf r4).toNat)
 case atStart=>exact⟨0,0,Ak _,rfl,rfl,Ak _,(fun _ h=>by simp at h),HB0.out⟩
 case round=>
  obtain⟨i,n,hi,rfl,rfl,hn,hall,hb⟩:=hrel;have HALL:=Aa hall;have HB:=Aa hb;clear hall hb;by_cases hlt:i < ln
  ·obtain⟨b,off,o,hpe,ho,v0,v1,v2,v4,e0,e1,e2,e3,e4,hpt⟩:=(HH.out wr HB.out).at_ (i:=i) (by rw[←HLN.out];exact hlt);subst hpe;have HN:=Aa fun(h:Gn o)=>Oy HALL.out ho h;have hcall:=Jks o v0 v1 v2 v4 wr hpt;unfold Gq at hcall;obtain⟨p0,c0,rfl,_⟩:=hpt.1;obtain⟨p1,c1,rfl,_⟩:=hpt.2.1;obtain⟨p2,c2,rfl,_⟩:=hpt.2.2.1;obtain⟨p4,c4,rfl,_⟩:=hpt.2.2.2;have HC:=Aa hcall;have HO:=Aa ho;have hJ:(i:Int) < (ln:Int):=by omega
   have hJ0:(0:Int)≤(i:Int):=by omega
   have hsz:gb≤wr.heap.size:=by rw[←HGB.out];exact HB.out.size
   clear hpt hcall ho;go_wp2_with fail
   refine HC.out.mono ?_;rintro e w2 ⟨⟨r,rfl,hr⟩,hb2⟩;have HB2:=Aa (HB.out.trans (hb2.mono hsz));have u0:=Ax hb2 e0;rcases hr with rfl|⟨rfl,hs⟩
   ·clear e0 e1 e2 e3 e4 hb2 HC u0;go_wp2_with fail
    go_ret;exact⟨⟨0,rfl,.inl rfl⟩,by first|exact HB2.out|(rw[HGB.out];exact HB2.out)⟩
   ·have HN2:=Aa (HN.out hs);have HS:=Aa hs;have hqn:=hs.secs;clear e0 e1 e2 e3 e4 hb2 HC HN hs;generalize hq:o.secs.length=qn at*;have HQ:=Aa hq;clear hq;go_wp2_with fail
    go_loopw [3,5] (fun r3 r5 wr=>∃k m:Nat,k≤qn∧r5= .int .i64 (k:Int)∧r3= .int .i64 (m:Int)∧m≤1000000*i+20000*k∧wr=w2) (fun _ r5 _=>qn - (intOf r5).toNat)
    case atStart=>exact⟨0,n,Ak _,rfl,rfl,by omega,rfl⟩
    case round=>
     obtain⟨k,m,hk,rfl,rfl,hm,rfl⟩:=hrel;by_cases hlt2:k < qn
     ·obtain⟨b',off',o',hpe,ho',v0',v1',v2',v4',e0',_,_,_,_,hpt'⟩:=(HH.out wr (by first|exact HB2.out|(rw[HGB.out];exact HB2.out))).at_ (i:=i) (by rw[←HLN.out];exact hlt);cases hpe;obtain rfl:o'=o:=by rw[HO.out]at ho';cases ho';rfl
      rw[u0]at e0';cases e0';obtain⟨p0',c0',e,q1,q2,_,hqh⟩:=hpt'.1;rw[HQ.out]at e;cases e;obtain⟨b1,off1,s,hpe1,hs,⟨_,_,_,_,_,_,_,⟨v7,f7,q7,d7,rfl,h71,h72,_⟩,_⟩⟩:=hqh.at_ (i:=k) (by rw[HQ.out];exact hlt2);subst hpe1;have hdl:=(HS.out.data s (Ad hs)).1;generalize s.data.length=dl at*;have hK:(k:Int) < (qn:Int):=by omega
      have hK0:(0:Int)≤(k:Int):=by omega
      clear hpt' hqh hs ho';go_wp2_with fail
      go_roundw
      case rel=>exact⟨k+1,m+dl,hlt2,by go_num,by go_num,by omega,by trivial⟩
      case measure=>simp[intOf];omega
     ·have hK:¬(k:Int) < (qn:Int):=by omega
      go_wp2_with fail
      go_roundw
      case rel=>exact⟨i+1,m,hlt,by go_num,rfl,by omega,HN2.out,HB2.out⟩
      case measure=>simp[intOf];omega
  ·obtain rfl:i=ln:=by omega
   have hJ:¬(i:Int) < (i:Int):=by omega
   have hE:=Aa (HE.out i HLN.out (by omega) HALL.out);by_cases hn2:12000 < n
   ·have hI2:(12000:Int) < (n:Int):=by omega
    go_wp2_with fail
    go_ret;exact⟨⟨0,rfl,.inl rfl⟩,by first|exact HB.out|(rw[HGB.out];exact HB.out)⟩
   ·have hI2:¬(12000:Int) < (n:Int):=by omega
    go_wp2_with fail
    go_ret;exact⟨⟨1,rfl,.inr ⟨rfl,by omega,hE.out.2⟩⟩,by first|exact HB.out|(rw[HGB.out];exact HB.out)⟩
theorem Jnj(p:Option Addr)(c:Nat)(l:List Az)(w:World)(h:Bg 5 Cg w p l)(f:Az→Bool)
 (hmay:∀o∈l,∀W (v0 v1 v2 v4:Value),Dn W v0 v1 v2 v4 o→Calls Tryz.prog 12 #[.agg #[v0,v1,v2,.bool o.hasSig,v4]] W fun e w'=>e= .returned (.bool (f o))∧Below W.heap.size W w'):
 Calls Tryz.prog 52 #[.slice p l.length c] w fun e w'=>e= .returned (.bool (decide (l.length≤8)&&l.all f))∧Below w.heap.size w w':=by
 obtain⟨r,hr⟩:∃r,r=(decide (l.length≤8)&&l.all f):=⟨_,rfl⟩
 rw[←hr];have HR:=Aa hr;have HH:=Aa fun W (hW:Below w.heap.size w W)=>h.below Cg.keeps hW;have HM:=Aa hmay;generalize hln:l.length=ln at*;have HLN:=Aa hln;clear h hmay hr hln;by_cases h8:ln≤8
 ·have h8i:¬(8:Int) < (ln:Int):=by omega
  have hr1:r=l.all f:=by rw[HR.out,Aj h8,Bool.true_and]
  have HR1:=Aa hr1;clear hr1 HR;go_enter Tryz.func52,Tryz.ntmps52;generalize hgb:w.heap.size=gb at*;have HGB:=Aa hgb;clear hgb;have hb0:Below gb w w:=by rw[←HGB.out];exact Ag _ w
  go_wp2_with fail
  go_loopw [10] (fun r10 wr=>∃i:Nat,i≤ln∧r10= .int .i64 (i:Int)∧(l.take i).all f=true∧Below gb w wr) (fun r10 _=>ln - (intOf r10).toNat)
  case atStart=>exact⟨0,Ak _,rfl,rfl,hb0⟩
  case round=>
   obtain⟨i,hi,rfl,hall,hb⟩:=hrel;have HALL:=Aa hall;clear hall;by_cases hlt:i < ln
   ·obtain⟨o,ho⟩:∃o,l[i]?=some o:=⟨_,Ae (by rw[HLN.out];exact hlt)⟩
    obtain⟨b,off,hpe,v0,v1,v2,v4,e0,e1,e2,e3,e4,i0,i1,i2,i4⟩:=HH.out wr hb i o ho;subst hpe;have hpt:Dn wr v0 v1 v2 v4 o:=⟨i0,i1,i2,i4⟩
    have hpt2:=hpt.below ((Ag _ wr).alloc (Af _) (.cells #[v0,v1,v2,.bool o.hasSig,v4] 27));have hcall:=HM.out o (Ad ho) _ _ _ _ _ hpt2;obtain⟨p0,c0,rfl,_⟩:=i0;obtain⟨p1,c1,rfl,_⟩:=i1;obtain⟨p2,c2,rfl,_⟩:=i2;obtain⟨p4,c4,rfl,_⟩:=i4;have hst:(l.take (i+1)).all f=f o:=by rw[Sl ho,List.all_append,HALL.out];simp
    have hmm:o∈l:=Ad ho;obtain⟨fo,hfo⟩:∃fo,fo=f o:=⟨_,rfl⟩
    rw[←hfo]at hcall hst;have HFO:=Aa (And.intro hmm hfo);have HST:=Aa hst;have hI:(i:Int) < (ln:Int):=by omega
    have hI0:(0:Int)≤(i:Int):=by omega
    have hI1:¬(ln:Int)≤(i:Int):=by omega
    have hgbs:gb≤wr.heap.size:=by rw[←HGB.out];exact hb.size
    have hb2:Below gb w (wr.alloc (.cells #[.slice p0 o.secs.length c0,.slice p1 o.syms.length c1,.slice p2 o.groups.length c2,.bool o.hasSig,.slice p4 o.sig.length c4] 27)):=hb.alloc hgbs _;obtain⟨⟨u0,u1,u2,u3,u4'⟩,_⟩:=Ga _ _ _ _ _ _ _ _ (Ah wr (.cells #[.slice p0 o.secs.length c0,.slice p1 o.syms.length c1,.slice p2 o.groups.length c2,.bool o.hasSig,.slice p4 o.sig.length c4] 27));have HC:=Aa hcall;clear ho hmm hfo hst hpt hpt2 hcall;go_upto_region 6 with fail
    generalize wr.alloc (.cells #[.slice p0 o.secs.length c0,.slice p1 o.syms.length c1,.slice p2 o.groups.length c2,.bool o.hasSig,.slice p4 o.sig.length c4] 27)=ws at*;generalize wr.heap.size=go at*;clear e0 e1 e2 e3 e4 hb;go_wp2_with fail
    refine HC.out.mono ?_;rintro e w2 ⟨rfl,hb3⟩;have hb4:Below gb w w2:=hb2.trans (hb3.mono (by have:=HGB.out;have:=hb2.size;omega));clear hb3 hb2 u0 u1 u2 u3 u4';cases fo with
    |true=>
     go_wp2_with fail
     go_roundw
     case rel=>exact⟨i+1,hlt,by go_num,HST.out,hb4⟩
     case measure=>simp[intOf];omega
    |false=>
     have hE:Hid (r=false):=Aa (by rw[HR1.out,List.all_eq_false];exact⟨o,HFO.out.1,by rw[←HFO.out.2];simp⟩);go_wp2_with fail
     go_ret;rw[hE.out];exact⟨rfl,by first|exact hb4|(rw[HGB.out];exact hb4)⟩
   ·obtain rfl:i=ln:=by omega
    have hI:¬(i:Int) < (i:Int):=by omega
    have hE:Hid (r=true):=Aa (by rw[HR1.out];have:=HALL.out;rwa [List.take_of_length_le (by rw[HLN.out];exact Af _)]at this);go_wp2_with fail
    go_ret;rw[hE.out];exact⟨rfl,by first|exact hb|(rw[HGB.out];exact hb)⟩
 ·have h8i:(8:Int) < (ln:Int):=by omega
  have hE:Hid (r=false):=Aa (by rw[HR.out,Ai h8];rfl);go_enter Tryz.func52,Tryz.ntmps52;go_wp2_with fail
  go_ret;rw[hE.out];exact⟨rfl,Ag _ _⟩
theorem Tryz.infoRefPart:(Tryz.prog.info? 106).map (fun i=>(i.zero,i.size,i.bytes))=some (some (.agg #[.int .i64 0,.int .i64 0,.int .i64 0,.int .i64 0,.int .i64 0,.int .i64 0,.int .i64 0,.int .i64 0,.int .i64 0,.int .i64 0,.string ⟨#[]⟩,.slice none 0 0]),12,120):=by kernel_rfl
theorem Jeb(o:Az)(v0 v1 v2 v4:Value)(a:Int)(w:World)(hp:IsL 9 Ev w v0 o.secs)(hl:Ho o):
 Calls Tryz.prog 34 #[Gq v0 v1 v2 o.hasSig v4,.int .i64 a] w (Hq 106 true w.heap.size (relPs a o.secs o.secs.length) w):=by
 obtain⟨i0,hi,hz0,hz1,hz2⟩:=info_parts Tryz.infoRefPart;have HI:=Aa hi;have H0:=Aa hz0;have H1:=Aa hz1;have H2:=Aa hz2;obtain⟨i1,gi,gz0,gz1,gz2⟩:=info_parts Tryz.infoU8;have GI:=Aa gi;have G0:=Aa gz0;have G1:=Aa gz1;have G2:=Aa gz2;have hb1:Below w.heap.size w (w.alloc (.cells #[v0,v1,v2,.bool o.hasSig,v4] 27)):=(Ag _ w).alloc (Af _) _;have hq:=hp.below Ev.keeps hb1;obtain⟨p0,c0,rfl,q1,q2,_,hqh⟩:=hq;have a0:(w.alloc (.cells #[.slice p0 o.secs.length c0,v1,v2,.bool o.hasSig,v4] 27)).cell? ⟨w.heap.size,0,none⟩=some (.slice p0 o.secs.length c0):=by simp
 have hgs:(w.alloc (.cells #[.slice p0 o.secs.length c0,v1,v2,.bool o.hasSig,v4] 27)).heap.size=w.heap.size+1:=by simp
 have hns:=hl.nsec;have HS:=Aa hl.secs;have HQ:=Aa hqh;have HB1:=Aa hb1;generalize hql:o.secs.length=ql at*;have HQL:=Aa hql;have HGS:=Aa hgs;clear hp hl hi hz0 hz1 hz2 gi gz0 gz1 gz2 hb1 hqh hql q1 q2;go_enter Tryz.func34,Tryz.ntmps34;go_upto_region 1 with fail
 generalize w.alloc (.cells #[.slice p0 ql c0,v1,v2,.bool o.hasSig,v4] 27)=W1 at*;have hgs2:w.heap.size < W1.heap.size:=by omega
 clear hgs;generalize o.hasSig=sg at*;go_wp2_with fail
 go_loopw [5,6] (fun r5 r6 wr=>∃(k:Nat)(pv:List PV)(pd:List Bk),k≤ql∧r6= .int .i64 ((k:Int)+1)∧pd=relPs a o.secs k∧pd.length≤k∧wr.ownsRow W1.heap.size 106 12 r5 pd.length (pvs true pv)∧Bf wr (fun b=>W1.heap.size≤b∧some b≠r5.ownBlock) pv pd∧Below W1.heap.size W1 wr) (fun _ r6 _=>ql+1 - (intOf r6).toNat)
 case atStart=>exact⟨0, [], [],Ak _,rfl,rfl,Af _,Aq _ _ _ _,Bf.nil _ _,Ag _ _⟩
 case round=>
  obtain⟨k,pv,pd,hk,rfl,hpd,hpl,hown,hpa,hb⟩:=hrel;have HPD:=Aa hpd;have HPA:=Aa hpa;have z0:=Ax hb a0;clear hpd hpa;by_cases hlt:k < ql
  ·obtain⟨b,off,s,rfl,hsk,hse⟩:=HQ.out.at_ (i:=k) (by rw[HQL.out];exact hlt);obtain⟨_,_,_,_,_,_,_,_,⟨vr,d8,hvr⟩⟩:=hse;obtain⟨rp,rc,rfl,r1,r2,_,hrh⟩:=hvr;have e8:=Ax hb d8;have HRH:=Aa (hrh.below Hk.keeps hb);have hsm:=HS.out s (Ad hsk);have hrl:=hsm.2.2.2.2.2.2.2.2.1;have HR:=Aa hsm.2.2.2.2.2.2.2.2.2.2;have HPS:=Aa (Xe (a:=a) hsk);generalize hrn:s.rels.length=rl at*;have HRN:=Aa hrn;have hJ:(k:Int)+1≤(ql:Int):=by omega
   have k1:IntKind.i64.wrap ((k:Int)+1 - 1)=(k:Int):=by rw[show(k:Int)+1 - 1=(k:Int) by omega];exact Al _ (by omega)
   have k2:(0:Int)≤(k:Int):=by omega
   have k3:(k:Int) < (ql:Int):=by omega
   have k4:IntKind.i64.wrap ((k:Int)+1+1)=(k:Int)+1+1:=Al _ (by omega);clear hsk d8 hrh hsm hrn r1 r2;generalize wr=wo at*;go_wp2_with fail
   go_loopw [7,9] (fun r7 r9 wx=>∃(j n:Nat),j≤rl∧r9= .int .i64 (j:Int)∧n=24*j∧wx.ownsRow wo.heap.size 5 1 r7 n ((Ft (s.rels.take j)).map u8v)∧Below wo.heap.size wo wx) (fun _ r9 _=>rl - (intOf r9).toNat)
   case atStart=>exact⟨0,0,Ak _,rfl,rfl,Aq _ _ _ _,Ag _ _⟩
   case round=>
    obtain⟨j,n,hj,rfl,hn,hob,hbx⟩:=hrel;have HN:=Aa hn;by_cases hjl:j < rl
    ·obtain⟨b2,off2,r,rfl,hrj,⟨x0,_⟩,⟨x1,_⟩,⟨x2,_⟩,⟨x3,_⟩⟩:=HRH.out.at_ (i:=j) (by rw[HRN.out];exact hjl);have d0:=Ax hbx x0;have d1:=Ax hbx x1;have d2:=Ax hbx x2;have d3:=Ax hbx x3;have hmay:=HR.out r (Ad hrj);have HC:=Aa fun W=>Jee (Oh r) W hmay.1 hmay.2;have HST:Hid (Ft (s.rels.take (j+1))=Ft (s.rels.take j)++Nr (Oh r)):=Aa (by rw[List.take_add_one,hrj];exact Vx _ _);have hJ1:(j:Int) < (rl:Int):=by omega
     have hJ2:(0:Int)≤(j:Int):=by omega
     clear hrj hmay x0 x1 x2 x3 hn;go_wp2_with fail
     refine(HC.out _).mono ?_;rintro e w2 ⟨v2',rfl,hown2,hbb2⟩;have hob2:=Ed hob hbb2;have hbx2:Below wo.heap.size wo w2:=hbx.trans (hbb2.mono hbx.size);obtain⟨p2,cc2,rfl,g1,g2,g3,g4⟩:=Has.of_owns hown2;have hpn:p2=none→cc2=0:=fun h=>by
      subst h;rcases hown2.2 with⟨h1,_⟩|⟨g,cap,cur,h1,_⟩<;>simp at h1
      exact h1.2
     have HG4:=Aa g4;have hn80:n≤2000:=by have:=HN.out;omega
     clear hown2 hbb2 hob hbx d0 d1 d2 d3 g4;go_wp2_with (at_builtin;refine Cd _ rfl (.tmp 30) (.tmp 35) 31 rfl wo.heap.size 5 i1 Tryz.underlying31 GI.out G0.out G1.out G2.out _ n _ rfl hob2 p2 24 cc2 (Nr (Oh r)) rfl HG4.out rfl hpn (by omega) hbx2.size ?_)
     intro v3 w3 hob3 hg3 _;have hbx3:Below wo.heap.size wo w3:=hbx2.grown hg3 hbx2.size (fun g hg=>(hob2.lt g hg).1);rw[←List.map_append,←HST.out]at hob3;clear hob2 hbx2 hg3;go_wp2_with fail
     go_roundw
     case rel=>exact⟨j+1,n+24,hjl,by go_num,by have:=HN.out;omega,hob3,hbx3⟩
     case measure=>simp[intOf];omega
    ·obtain rfl:j=rl:=by omega
     have hobd:wr.ownsRow wo.heap.size 5 1 u7 n ((Ft s.rels).map u8v):=by
      rw[List.take_of_length_le (by rw[HRN.out];exact Af _)]at hob;exact hob
     have hown2:=Bd hown hbx;have hpa2:Hid (Bf wr (fun b=>W1.heap.size≤b∧some b≠u5.ownBlock) pv pd):=Aa (HPA.out.below hbx);have hb2:Below W1.heap.size W1 wr:=hb.trans (hbx.mono hb.size);have hbs:=hb.size;have hJ1:¬(j:Int) < (j:Int):=by omega
     have hu5:=fun g hg=>(hown.lt g hg).2;clear hob hown HPA hb e8 z0 hn;rcases Nat.eq_zero_or_pos j with h0|h0
     ·subst h0;have hE:Hid (relPs a o.secs (k+1)=pd):=Aa (by rw[HPS.out,←HPD.out];unfold Hx;rw[if_pos HRN.out];simp);go_wp2_with fail
      go_roundw
      case rel=>exact⟨k+1,pv,pd,hlt,by go_num,hE.out.symm,by omega,hown2,hpa2.out,hb2⟩
      case measure=>simp[intOf];omega
     ·have hj0:(0:Int) < (j:Int):=by omega
      obtain⟨p7,c7,rfl,_,_,_,_⟩:=Has.of_owns hobd
      have hsl:Bf wr (fun b=>W1.heap.size≤b∧some b≠u5.ownBlock) [⟨Io a ((k:Int)+1),Ly,(.slice p7 n c7)⟩] [⟨Io a ((k:Int)+1),Ly,Ft s.rels⟩]:=Bf.one (SlB.of_owns hobd fun b hb=>by
       have h1:=(hobd.lt b hb).1
       exact⟨by omega,fun e=>by have:=hu5 b e.symm;omega⟩)
      have HSL:=Aa hsl;have hE:Hid (relPs a o.secs (k+1)=pd++ [⟨Io a ((k:Int)+1),Ly,Ft s.rels⟩]):=Aa (by rw[HPS.out,←HPD.out];unfold Hx;rw[if_neg (by rw[HRN.out];omega)]);have h1c:∀u∈PV.cells true ⟨Io a ((k:Int)+1),Ly,(.slice p7 n c7)⟩,u.oneCell'=true:=fun u hu=>(hsl.oneCell (q:=true)) u (by simpa[pvs]using hu);have H1C:=Aa h1c;have hbz:=hb2.size;clear hsl hu5 h1c hobd;go_wp2_with (at_builtin;refine wpList_append_own_at _ rfl (.tmp 40) (.tmp 46) 107 rfl W1.heap.size 106 i0 _ 12 120 Tryz.underlying107 HI.out H0.out H1.out H2.out rfl (by decide) _ pd.length _ rfl (hown2.alloc _) ⟨wr.heap.size,0,none⟩ 1 1 (PV.cells true ⟨Io a ((k:Int)+1),Ly,(.slice p7 n c7)⟩) rfl rfl (Fi wr _ _) H1C.out (by unfold maxLen;omega) (by omega) (by simp;omega) ?_)
      intro v1 w4 hown4 hg4 _ hat4;have HP:=Aa (Jf hpa2.out HSL.out hown4 hg4 hat4);have hb4:Below W1.heap.size W1 w4:=(hb2.alloc hb2.size _).grown hg4 (by simp;omega) (fun g hg=>(hown2.lt g hg).1);clear hown4 hg4 hat4 hown2 hpa2 HSL hb2;go_wp2_with fail
      go_roundw
      case rel=>exact⟨k+1,_,_,hlt,by go_num,hE.out.symm,by simp;omega,HP.out.1,HP.out.2,hb4⟩
      case measure=>simp[intOf];omega
  ·obtain rfl:k=ql:=by omega
   have hJ:¬(k:Int)+1≤(k:Int):=by omega
   go_wp2_with fail
   go_ret;refine⟨u5,pv,rfl,?_,?_,HB1.out.trans (hb.mono (by omega))⟩
   ·rw[←HPD.out];exact Cm hown (by omega)
   ·rw[←HPD.out];exact HPA.out.weaken fun b hb h=>⟨by omega,h.2⟩
theorem Jsv(n:Int)(w:World)(h:n < 0∨2147483647 < n):
 Calls Tryz.prog 82 #[.int .i64 n] w fun e w'=>e= .returned (.slice none 0 0)∧w=w':=by
 by_cases h0:n < 0
 ·clear h;go_enter Tryz.func82,Tryz.ntmps82;go_wp2_with fail
  go_ret;exact⟨rfl,rfl⟩
 ·have h1:2147483647 < n:=h.resolve_left h0;clear h;go_enter Tryz.func82,Tryz.ntmps82;go_wp2_with fail
  go_ret;exact⟨rfl,rfl⟩
theorem Jla(f n:Nat)(h:0 < f):0 < (ulebB f n).length:=by
 cases f with
 |zero=>omega
 |succ f=>
  unfold ulebB;split<;>simp
theorem Jcl{w:World}(x:UInt8):(w.alloc (.cells #[u8v x] 5)).ownsRow w.heap.size 5 1 (.slice (some ⟨w.heap.size,0,none⟩) 1 1) 1 ([x].map u8v):=
 World.ownsRow_lit w #[u8v x] 1 (Af _) (by unfold maxLen;omega) rfl
theorem Jf0(f:Nat):∀(n:Nat)(w:World),n < 128 ^ f→n≤2147483647→0 < f→f≤5→
 Calls Tryz.prog 82 #[.int .i64 n] w (Fe (ulebB f n) w):=by
 induction f with
 |zero=>intro n w _ _ h _;exact absurd h (by omega)
 |succ f ih=>
  intro n w hn hm _ hf5;have IH:=Aa ih;clear ih;by_cases h:n < 128
  ·have HU:Hid (ulebB (f+1) n= [UInt8.ofNat n]):=Aa (by simp[ulebB,h]);have HB:Hid (Value.int .u8 (n:Int)=u8v (UInt8.ofNat n)):=Aa (by unfold u8v;congr 1;simp;omega);have hmI:(n:Int)≤2147483647:=by omega
   clear hn hm;go_enter Tryz.func82,Tryz.ntmps82;go_wp2_with fail
   go_ret;refine⟨_,rfl,?_,(Ag _ w).alloc (Af _) _⟩;rw[HU.out];show(w.alloc (.cells #[Value.int .u8 (n:Int)] 5)).ownsRow _ _ _ _ _ _;rw[HB.out];exact Jcl _
  ·have hf:0 < f:=by
    rcases Nat.eq_zero_or_pos f with h0|h0
    ·subst h0;simp at hn;omega
    ·exact h0
   have hd:n / 128 < 128 ^ f:=by
    rw[Nat.pow_succ]at hn;exact Nat.div_lt_of_lt_mul (by rw[Nat.mul_comm];exact hn)
   obtain⟨d,hdd⟩:∃d,d=UInt8.ofNat (128+n % 128):=⟨_,rfl⟩
   have HU:Hid (ulebB (f+1) n=d::ulebB f (n / 128)):=Aa (by rw[hdd];simp[ulebB,h]);have HB:Hid (Value.int .u8 (128+(n:Int) % 128)=u8v d):=Aa (by rw[hdd];unfold u8v;congr 1;simp;omega);clear hdd;have HR:Hid (∀W:World,Calls Tryz.prog 82 #[.int .i64 ((n:Int) / 128)] W (Md (ulebB f (n / 128)).length (ulebB f (n / 128)) W)):=Aa fun W=>by
    rw[show(n:Int) / 128=((n / 128:Nat):Int) by omega];exact(IH.out (n / 128) W hd (by omega) hf (by omega)).mono fun _ _ h=>h.toH
   have hl1:=Lk f (n / 128);have hl2:=Jla f (n / 128) hf;have HW:Hid ((w.alloc (.cells #[Value.int .u8 (128+(n:Int) % 128)] 5)).ownsRow w.heap.size 5 1 (.slice (some ⟨w.heap.size,0,none⟩) 1 1) 1 ([d].map u8v)):=Aa (by rw[HB.out];exact Jcl _);have HBel:Hid (Below w.heap.size w (w.alloc (.cells #[Value.int .u8 (128+(n:Int) % 128)] 5))):=Aa ((Ag _ w).alloc (Af _) _);generalize hll:(ulebB f (n / 128)).length=m at*;have HM:=Aa hll;obtain⟨i0,hi,hz0,hz1,hz2⟩:=info_parts Tryz.infoU8;have HI:=Aa hi;have H0:=Aa hz0;have H1:=Aa hz1;have H2:=Aa hz2;have hmI:(n:Int)≤2147483647:=by omega
   have h0I:(0:Int)≤(n:Int):=by omega
   clear hn hm hd hi hz0 hz1 hz2 hll;go_enter Tryz.func82,Tryz.ntmps82;go_wp2_with fail
   refine(HR.out _).mono ?_;rintro e w2 ⟨p2,c2,rfl,_,hnc2,hcm2,hH2,hb2⟩;obtain⟨b2,off2,rfl,_⟩:=hH2.plain (by rw[HM.out];exact hl2);have ho:=Ed HW.out hb2;have hb02:Below w.heap.size w w2:=HBel.out.trans (hb2.mono HBel.out.size);have HH2:=Aa hH2;clear hH2 hb2;go_wp2_with (at_builtin;refine wpList_append_own _ rfl _ _ 31 rfl w.heap.size 5 i0 (.int .u8 0) 1 1 Tryz.underlying31 HI.out H0.out H1.out H2.out rfl (by decide) _ _ _ rfl ho ⟨b2,off2,none⟩ m c2 ((ulebB f (n / 128)).map u8v) rfl (by rw[List.length_map,HM.out,Nat.mul_one]) HH2.out.cells (Kv _) ?c3 ?c4 hb02.size ?_)
   case c3=>unfold maxLen;omega
   case c4=>omega
   intro v' w3 ho' hg _;have hb3:Below w.heap.size w w3:=hb02.grown hg hb02.size (fun g hg=>(ho.lt g hg).1);clear hg ho hb02;go_wp2_with fail
   go_ret;refine⟨_,rfl,?_,hb3⟩;rw[HU.out,List.length_cons,HM.out,Nat.add_comm m 1];exact ho'
end Go.Proofs.YteopgmieindojaaGreat
