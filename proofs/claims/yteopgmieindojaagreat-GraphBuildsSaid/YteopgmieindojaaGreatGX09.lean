/- Parts of a proof. -/
import Derived.Test.YteopgmieindojaaGreatGX08
import Derived.Test.YteopgmieindojaaGreatGX03
import Derived.Test.YteopgmieindojaaGreatGX04
set_option maxRecDepth 1000000
set_option maxHeartbeats 8000000
namespace Go.Proofs.YteopgmieindojaaGreat
open Go.RowKit
theorem Ok{α:Type}{f:Az→List α}{l:List Az}{M:Nat}(h:∀o∈l,(f o).length≤M):∀n,(Bc f l n).length≤n*M
 |0=>by simp[Bc]
 |n+1=>by
  have ih:=Ok h n;unfold Bc;rw[List.length_append,Nat.succ_mul];cases ho:l[n]? with
  |none=>simp;omega
  |some o=>
   simp only;rw[He];have:=h o (Ad ho);omega
theorem Ps{l:List Az}{i k:Nat}{o:Az}{n:Int}{g:Cs}(hg:o.groups[k]?=some g):Fn l i o n (k+1)=bif g.members.contains n then((Bc Az.groups l i).length:Int)+(k:Int)+1 else Fn l i o n k:=by
 conv=>lhs;unfold Fn
 rw[hg]
theorem Jbf{l:List Az}{i k:Nat}{o:Az}{n:Int}{g:Cs}(h1:Wm o)(hn:1≤n)(hg:o.groups[k]?=some g)(hm:g.members.contains n=true)(hmo:Jht o):∀m,k < m→Fn l i o n m=((Bc Az.groups l i).length:Int)+(k:Int)+1
 |0,h=>absurd h (by omega)
 |m+1,h=>by
  by_cases e:m=k
  ·subst e;rw[Ps hg,hm];rfl
  ·have ih:=Jbf (l:=l) (i:=i) h1 hn hg hm hmo m (by omega);cases hq:o.groups[m]? with
   |none=>
    conv=>lhs;unfold Fn
    rw[hq];exact ih
   |some g2=>
    rw[Ps hq];have hc:g2.members.contains n=false:=by
     cases hc:g2.members.contains n with
     |false=>rfl
     |true=>
      have hm1:n∈g.members:=by simpa using hm
      have hm2:n∈g2.members:=by simpa using hc
      exact absurd rfl (h1 k m g g2 hg hq (by omega) n hm2 n hm1 ⟨hn,hn⟩)
    rw[hc];exact ih
theorem Jbo{ms:List Int}{j:Nat}{x n:Int}(hx:ms[j]?=some x)(h:(ms.take j).contains n=false):(ms.take (j+1)).contains n=(x==n):=by
 rw[List.take_add_one,hx];simp at h⊢;by_cases e:x=n
 ·simp[e]
 ·have e2:¬n=x:=fun h=>e h.symm;simp[e,e2,h]
theorem Jiq(p:Option Addr)(c o k:Nat)(l:List Az)(w:World)(h:Bg 5 Cg w p l)(hok:∀o∈l,OkD o)(hlc:l.length≤1000){ob:Az}(hi:l[o]?=some ob):
 Calls Tryz.prog 118 #[.slice p l.length c,.int .i64 (o:Int),.int .i64 ((k:Int)+1)] w fun e w'=>e= .returned (.int .i64 (Gm l o ((k:Int)+1)))∧Below w.heap.size w w':=by
 have hoo:=hok ob (Ad hi);have hres:Gm l o ((k:Int)+1)=Fn l o ob ((k:Int)+1) ob.groups.length:=by unfold Gm Ht;rw[hi];rfl
 have hol:o < l.length:=(Ab.1 hi).1;rw[hres];obtain⟨n,hn⟩:∃n,n=(k:Int)+1:=⟨_,rfl⟩
 have hn1:1≤n:=by omega
 rw[←hn];obtain⟨res,hr⟩:∃res,res=Fn l o ob n ob.groups.length:=⟨_,rfl⟩
 rw[←hr];have HR:=Aa hr;have HONE:=Aa hoo.one;have HMO:=Aa hoo.mem;have HI:=Aa hi;have HOK:=Aa hok;have HH:=Aa h;generalize hln:l.length=ln at*;have HLN:=Aa hln;generalize hgb:w.heap.size=gb at*;have HGB:=Aa hgb;have HN1:=Aa hn1;have HW:=Aa (show Below gb w w by rw[←hgb];exact Ag _ w);clear hoo hres hn hr hi hok h hln hgb hn1;go_enter Tryz.func118,Tryz.ntmps118;go_wp2_with fail
 go_loopw [7,8,9,10,11] (fun r7 r8 _ _ _ wr=>w=wr∧∃a:Nat,r8= .int .i64 (a:Int)∧a≤o+1∧r7= .int .i64 ((Bc Az.groups l a).length:Int)∧(a=o+1→res=0)) (fun _ r8 _ _ _ _=>o+1 - (intOf r8).toNat)
 case atStart=>exact⟨rfl,0,rfl,Ak _,rfl,fun h=>by omega⟩
 case round=>
  obtain⟨rfl,a,rfl,ha,rfl,hend⟩:=hrel;by_cases hao:a≤o
  ·obtain⟨oa,hoa⟩:∃oa,l[a]?=some oa:=⟨_,Ae (by rw[HLN.out];omega)⟩
   have HOA:=Aa hoa;have hok2:=HOK.out oa (Ad hoa);have hgl2:=hok2.few.2.2.1;have HML:=Aa hok2.few.2.2.2.2;have hA:(a:Int)≤(o:Int):=by omega
   have hA1:(a:Int) < (ln:Int):=by omega
   have hA0:(0:Int)≤(a:Int):=by omega
   obtain⟨b,off,p0,p1,p2,p4,c0,c1,c2,c4,hpe,e0,e1,e2,_,_,_,hsy,hgr,_,_⟩:=Du HH.out hoa;subst hpe;have HGR:=Aa hgr
   have HBASE:Hid ((Bc Az.groups l (a+1)).length=(Bc Az.groups l a).length+oa.groups.length):=Aa (by
    conv=>lhs;unfold Bc
    rw[hoa]
    simp[Eh])
   have HEQ:Hid (a=o→oa=ob):=Aa fun e=>by
    subst e;have h1:=HI.out;rw[hoa]at h1;cases h1;rfl
   obtain⟨G,hG⟩:∃G,G=(Bc Az.groups l a).length:=⟨_,rfl⟩
   have hGle:G≤1000*100000:=by
    rw[hG];exact Aw (Ok (fun x hx=>(HOK.out x hx).few.2.2.1) a) (Nat.mul_le_mul_right _ (by omega))
   rw[←hG]at HBASE⊢;have HG:=Aa hG;generalize hgn:oa.groups.length=gn at*;have HGN:=Aa hgn;clear hend hoa hok2 e0 e1 hsy hgr hgn hG;go_wp2_with fail
   go_loopw [7,9,10,11] (fun r7 r9 _ _ wq=>w=wq∧∃q:Nat,r9= .int .i64 (q:Int)∧q≤gn∧r7= .int .i64 ((G:Int)+(q:Int))∧(a=o→Fn l o ob n q=0)) (fun _ r9 _ _ _=>gn - (intOf r9).toNat)
   case atStart=>exact⟨rfl,0,rfl,Ak _,by go_num,fun _=>rfl⟩
   case round=>
    obtain⟨rfl,q,rfl,hq,rfl,hz⟩:=hrel;have HZ:=Aa hz;clear hz;by_cases hlt:q < gn
    ·obtain⟨b2,off2,g,hpe2,hg,hE0,v2,hcv,q2,c2',rfl,_,_,_,hml⟩:=HGR.out.at_ (i:=q) (by rw[HGN.out];exact hlt);subst hpe2;have HGG:=Aa hg;have HMB:=Aa hml;have hml2:=HML.out g (Ad hg);generalize hmn:g.members.length=mn at*;have HMN:=Aa hmn;have hQ:(q:Int) < (gn:Int):=by omega
     have hw1:IntKind.i64.wrap ((G:Int)+(q:Int)+1)=(G:Int)+(q:Int)+1:=Al _ (by omega);clear hg hE0 hml hmn;go_wp2_with fail
     go_loopw [11] (fun r11 wx=>w=wx∧∃j:Nat,r11= .int .i64 (j:Int)∧j≤mn∧(a=o→(g.members.take j).contains n=false)) (fun r11 _=>mn - (intOf r11).toNat)
     case atStart=>exact⟨rfl,0,rfl,Ak _,fun _=>rfl⟩
     case round=>
      obtain⟨rfl,j,rfl,hj,hz⟩:=hrel;have HZ2:=Aa hz;clear hz;by_cases hjl:j < mn
      ·obtain⟨b5,off5,x,hpe5,hx,hcx⟩:=HMB.out.at_ (i:=j) (by rw[HMN.out];exact hjl);subst hpe5;have hcx0:=hcx.1;rw[Nat.mul_one]at hcx0;have HX:=Aa hx;have hJ:(j:Int) < (mn:Int):=by omega
       have hJ0:(0:Int)≤(j:Int):=by omega
       clear hx hcx;by_cases hax:a=o∧x=n
       ·have hA2:((a:Int)==(o:Int))=true:=by simp;omega
        have hX2:(x==n)=true:=by simpa using hax.2
        have HRES:Hid (res=(G:Int)+(q:Int)+1):=Aa (by
         have e1:=HEQ.out hax.1;have hm:g.members.contains n=true:=by
          have:=Ad HX.out;rw[hax.2]at this;simpa using this
         have hg2:=HGG.out;have hgn2:=HGN.out;rw[e1]at hg2 hgn2
         rw[HR.out,Jbf HONE.out HN1.out hg2 hm HMO.out _ (by omega),HG.out,hax.1])
        clear hax;go_wp2_with fail
        go_ret;rw[HRES.out];exact⟨rfl,HW.out⟩
       ·have hA2:((a:Int)==(o:Int))=false∨(x==n)=false:=by
         rcases Classical.em (a=o)with h1|h1
         ·right;simpa using fun h2=>hax ⟨h1,h2⟩
         ·left;simp;omega
        have HST:Hid (a=o→(g.members.take (j+1)).contains n=false):=Aa fun h1=>by
         rw[Jbo HX.out (HZ2.out h1)];simpa using fun h2=>hax ⟨h1,h2⟩
        clear hax;cases hq1:((a:Int)==(o:Int))with
        |false=>
         go_wp2_with fail
         go_roundw
         case rel=>exact⟨by trivial,j+1,by go_num,hjl,HST.out⟩
         case measure=>simp[intOf];omega
        |true=>
         have hq2:(x==n)=false:=by
          rcases hA2 with h1|h1
          ·rw[hq1]at h1;cases h1
          ·exact h1
         clear hA2;go_wp2_with fail
         go_roundw
         case rel=>exact⟨by trivial,j+1,by go_num,hjl,HST.out⟩
         case measure=>simp[intOf];omega
      ·have hJ:¬(j:Int) < (mn:Int):=by omega
       have HST:Hid (a=o→Fn l o ob n (q+1)=0):=Aa fun h1=>by
        have e1:=HEQ.out h1;have hg2:=HGG.out;rw[e1]at hg2;have h2:=HZ2.out h1;rw[List.take_of_length_le (by rw[HMN.out];omega)]at h2;rw[Ps hg2,h2];exact HZ.out h1
       go_wp2_with fail
       go_roundw
       case rel=>exact⟨by trivial,q+1,by go_num,hlt,by go_num,HST.out⟩
       case measure=>simp[intOf];omega
    ·have hQ:¬(q:Int) < (gn:Int):=by omega
     obtain rfl:q=gn:=by omega
     have HE:Hid (a+1=o+1→res=0):=Aa fun h1=>by
      have h2:a=o:=by omega
      have e1:=HEQ.out h2;have hgn2:=HGN.out;rw[e1]at hgn2;rw[HR.out,hgn2];exact HZ.out h2
     have HB2:Hid ((G:Int)+(q:Int)=((Bc Az.groups l (a+1)).length:Int)):=Aa (by rw[HBASE.out];omega);go_wp2_with fail
     go_roundw
     case rel=>exact⟨by trivial,a+1,by go_num,by omega,by rw[HB2.out],HE.out⟩
     case measure=>simp[intOf];omega
  ·obtain rfl:a=o+1:=by omega
   have HE:=Aa (hend rfl);have hA:¬((o+1:Nat):Int)≤(o:Int):=by omega
   have hA2:¬(o:Int)+1≤(o:Int):=by omega
   clear hend;go_wp2_with fail
   go_ret;rw[HE.out];exact⟨rfl,HW.out⟩
theorem Rz{w:World}{p:Option Addr}{l:List Ca}{k:Nat}{s:Ca}(h:Bg 9 Ev w p l)(hk:l[k]?=some s):
 ∃(b off:Nat)(p7 p8:Option Addr)(c7 c8:Nat),p=some ⟨b,off,none⟩∧w.cell? ⟨b,off+k*9,none⟩=some (.string s.name)∧w.cell? ⟨b,off+k*9+1,none⟩=some (.int .i64 s.type)∧w.cell? ⟨b,off+k*9+2,none⟩=some (.int .i64 s.flags)∧w.cell? ⟨b,off+k*9+3,none⟩=some (.int .i64 s.align)∧
  w.cell? ⟨b,off+k*9+4,none⟩=some (.int .i64 s.ent)∧w.cell? ⟨b,off+k*9+5,none⟩=some (.int .i64 s.link)∧w.cell? ⟨b,off+k*9+6,none⟩=some (.int .i64 s.size)∧w.cell? ⟨b,off+k*9+7,none⟩=some (.slice p7 s.data.length c7)∧w.cell? ⟨b,off+k*9+8,none⟩=some (.slice p8 s.rels.length c8)∧
  (Bg 1 Ds w p7 s.data∧s.data.length≤c7∧c7≤maxLen∧(p7=none→c7=0))∧(Bg 4 Hk w p8 s.rels∧s.rels.length≤c8∧c8≤maxLen)∧s.name.size≤maxLen∧Bn s.type∧Bn s.flags∧Bn s.align∧Bn s.ent∧Bn s.link∧Bn s.size:=by
 obtain⟨b,off,rfl,e0,e1,e2,e3,e4,e5,e6,⟨v7,c7,p7,cc7,rfl,x1,x2,x3,x4⟩,⟨v8,c8,p8,cc8,rfl,y1,y2,y3,y4⟩⟩:=h k s hk;exact⟨b,off,p7,p8,cc7,cc8,rfl,e0.1,e1.1,e2.1,e3.1,e4.1,e5.1,e6.1,c7,c8,⟨x4,x1,x2,x3⟩,⟨y4,y1,y2⟩,e0.2,e1.2,e2.2,e3.2,e4.2,e5.2,e6.2⟩
abbrev zPl:Array Value:=#[.int .i64 0,.int .i64 0,.int .i64 0]
theorem Ws{w w3:World}{T:TypeId}(h:Below (w.alloc (.cells zPl T)).drew.heap.size (w.alloc (.cells zPl T)).drew w3):w3.heap[w.heap.size]?=some (.cells zPl T (0,0))∧Below w.heap.size w w3:=by
 have h1:Below w.heap.size w (w.alloc (.cells zPl T)).drew:=((Ag _ w).alloc (Af _) _).drew;have h2:(w.alloc (.cells zPl T)).drew.heap[w.heap.size]?=some (.cells zPl T (0,0)):=Ah w _;exact⟨(h.block _ (Ac.1 h2).1).trans h2,h1.trans (h.mono h1.size)⟩
theorem Jft(p pd pf:Option Addr)(c cd nf cf o k:Nat)(l:List Az)(D:List (List Bool))(w:World)(h:Bg 5 Cg w p l)(hok:∀o∈l,OkD o)(hlc:l.length≤1000)(hD:Er w pd l D){ob:Az}{s:Ca}(hi:l[o]?=some ob)(hk:ob.secs[k]?=some s):
 Calls Tryz.prog 119 #[.slice p l.length c,.agg #[.slice pd D.length cd,.slice pf nf cf],.int .i64 (o:Int),.int .i64 ((k:Int)+1)] w fun e w'=>e= .returned (.bool (Ml l D (o,k,s)))∧Below w.heap.size w w':=by
 obtain⟨wa,hwa⟩:∃wa,wa=w.alloc (.cells #[.slice pd D.length cd,.slice pf nf cf] 54):=⟨_,rfl⟩
 have ha:Below w.heap.size w wa:=by rw[hwa];exact(Ag _ w).alloc (Af _) _
 have hA0:wa.heap[w.heap.size]?=some (.cells #[.slice pd D.length cd,.slice pf nf cf] 54 (0,0)):=by rw[hwa];exact Ah w _
 obtain⟨⟨a0,a1⟩,_⟩:=Bz _ _ _ _ _ hA0;have hol:o < l.length:=(Ab.1 hi).1;have hoo:=hok ob (Ad hi);have hkl:k < ob.secs.length:=(Ab.1 hk).1;have hql:=hoo.few.1;obtain⟨b,off,p0,p1,p2,p4,c0,c1,c2,c4,hpe,e0,e1,e2,e3,e4,hsec,_,_,_,_⟩:=Du (h.below Cg.keeps ha) hi;subst hpe;obtain⟨b2,off2,p7,p8,c7,c8,hpe2,f0,f1,f2,f3,f4,f5,f6,f7,f8,_,_,_,_,hfb,_⟩:=Rz hsec hk;subst hpe2;have HHAS:=Aa fun W=>Kc s.name s.type s.flags s.align s.ent s.link s.size (.slice p7 s.data.length c7) (.slice p8 s.rels.length c8) 16 W (by omega) (by omega) hfb;have HWH:=Aa fun W (hW:Below w.heap.size w W)(a x:Int)(hx:Bn a)(hx2:Bn x)=>Sf (some ⟨b,off,none⟩) pd c cd a x (.slice pf nf cf) l D W (h.below Cg.keeps hW) hok hlc (hD.below hW) hx hx2;have HSIG:=Aa fun W (hW:Below w.heap.size w W)(a:Nat)(oa:Az)(hoa:l[a]?=some oa)=>Du (h.below Cg.keeps hW) hoa;have HOK:=Aa hok;have hob:Ht l o=ob:=by unfold Ht;rw[hi];rfl
 have hres:Ml l D (o,k,s)=bif hasF s.flags 16 then false else bif !ob.hasSig then true else Lm l D o ((k:Int)+1):=by unfold Ml;rw[hob]
 rw[hres];generalize hasF s.flags 16=mg at*;generalize ob.hasSig=hsg at*;obtain⟨nm,hnm⟩:∃nm,nm=Lm l D o ((k:Int)+1):=⟨_,rfl⟩
 rw[←hnm];have HNM:=Aa hnm;generalize hln:l.length=ln at*;have HLN:=Aa hln;generalize hgb:w.heap.size=gb at*;have HGB:=Aa hgb;generalize s.data.length=dl at*;generalize s.rels.length=rl at*;generalize ob.secs.length=ql at*;have j1:(o:Int) < (ln:Int):=by omega
 have j2:(k:Int) < (ql:Int):=by omega
 have j3:IntKind.i64.wrap ((k:Int)+1 - 1)=(k:Int):=by rw[show(k:Int)+1 - 1=(k:Int) by omega];exact Al _ (by omega)
 have HA:=Aa ha;have HA0:=Aa hA0;clear hoo hob hres hnm hi hk hok hsec hln hgb h hD ha hA0 hfb e1 e2 e4;subst hwa;go_enter Tryz.func119,Tryz.ntmps119;go_upto_region 1 with fail
 generalize w.alloc (.cells #[.slice pd D.length cd,.slice pf nf cf] 54)=wa at*;rw[HGB.out];go_upto_region 2 with(first|(go_at_call 31;refine(HHAS.out _).mono ?_;rintro e w1 ⟨rfl,hb1⟩)|fail)
 have hb01:=HA.out.trans (hb1.mono (by have:=(Ac.1 HA0.out).1;omega));have a0':=Ax hb1 a0;have a1':=Ax hb1 a1;have e3':=Ax hb1 e3;clear f0 f1 f2 f3 f4 f5 f6 f7 f8 e0 e3 a0 a1 hb1;cases mg with
 |true=>
  go_wp2_with fail
  go_ret;exact⟨rfl,hb01⟩
 |false=>
 cases hsg with
 |false=>
  go_wp2_with fail
  go_ret;exact⟨rfl,hb01⟩
 |true=>
 have hsz1:gb < w1.heap.size:=Ao w1 _ a0';have HB1:=Aa hb01;clear hb01;go_wp2_with fail
 clear e3';go_loopw [10,11,12,13] (fun r10 _ _ _ wr=>∃a:Nat,r10= .int .i64 (a:Int)∧a≤ln∧Below gb w wr∧wr.cell? ⟨gb,0,none⟩=some (.slice pd D.length cd)∧wr.cell? ⟨gb,1,none⟩=some (.slice pf nf cf)∧(Bc Az.sig l a).any (Gk l D o ((k:Int)+1))=false) (fun r10 _ _ _ _=>ln - (intOf r10).toNat)
 case atStart=>exact⟨0,rfl,Ak _,HB1.out,a0',a1',rfl⟩
 case round=>
  obtain⟨a,rfl,ha,hb,a0,a1,hany⟩:=hrel;have HANY:=Aa hany;clear hany a0' a1';by_cases hal:a < ln
  ·obtain⟨oa,hoa⟩:∃oa,l[a]?=some oa:=⟨_,Ae (by rw[HLN.out];exact hal)⟩
   have HOA:=Aa hoa;have hxl:=(HOK.out oa (Ad hoa)).few.2.2.2.1;have jA:(a:Int) < (ln:Int):=by omega
   have jA0:(0:Int)≤(a:Int):=by omega
   clear hoa;go_wp2_with fail
   go_loopw [11,12,13] (fun r11 _ _ wq=>∃q:Nat,r11= .int .i64 (q:Int)∧q≤oa.sig.length∧Below gb w wq∧wq.cell? ⟨gb,0,none⟩=some (.slice pd D.length cd)∧wq.cell? ⟨gb,1,none⟩=some (.slice pf nf cf)∧(Bo Az.sig l a q).any (Gk l D o ((k:Int)+1))=false) (fun r11 _ _ _=>oa.sig.length - (intOf r11).toNat)
   case atStart=>exact⟨0,rfl,Ak _,hb,a0,a1,by rw[Eb];exact HANY.out⟩
   case round=>
    obtain⟨q,rfl,hq,hb,a0,a1,hany⟩:=hrel;have HANY2:=Aa hany;obtain⟨b,off,p0,p1,p2,p4,c0,c1,c2,c4,hpe,_,_,_,_,e4,_,_,_,hsig,_⟩:=HSIG.out wr hb a oa HOA.out;cases hpe;clear hany;by_cases hql:q < oa.sig.length
    ·obtain⟨b5,off5,x,hpe5,hx,hcx⟩:=hsig.at_ hql;subst hpe5;have hcx0:=hcx.1;rw[Nat.mul_one]at hcx0
     have HSTEP:Hid ((Bo Az.sig l a (q+1)).any (Gk l D o ((k:Int)+1))=Gk l D o ((k:Int)+1) (a,q,x)):=Aa (by
      rw[Fp HOA.out hx,List.any_append,HANY2.out]
      simp)
     have HYES:Hid (Gk l D o ((k:Int)+1) (a,q,x)=true→nm=true):=Aa fun h1=>by
      rw[HNM.out];unfold Lm;exact List.any_eq_true.2 ⟨(a,q,x),Gh.2 ⟨by rw[HLN.out];exact hal,oa,HOA.out,hx⟩,h1⟩
     obtain⟨⟨pl1,pl2,pl3⟩,cd1,hwb⟩:∃(P:Cq)(n:Int),Ck l D a x=(P,n):=⟨_,_,rfl⟩
     have hhit:Gk l D o ((k:Int)+1) (a,q,x)=(cd1==0&&(pl2==((k:Int)+1)&&pl1==(o:Int))):=by unfold Gk;simp only;rw[hwb]
     rw[hhit]at HSTEP HYES;have HWX:=Aa fun W (hW:Below wr.heap.size wr W)=>HWH.out W (hb.trans (hW.mono (Ar (Ao wr _ a0)))) (a:Int) x (by unfold Bn;omega) hcx.2;rw[hwb]at HWX;generalize hsl:oa.sig.length=sl at*;have jQ:(q:Int) < (sl:Int):=by omega
     have jQ0:(0:Int)≤(q:Int):=by omega
     have HBR:=Aa hb;clear hhit hwb hx hcx hsig;go_upto_region 12 with fail
     go_cut [12,13] (fun s12 s13 wx=>∃g,s12= .pointer (some ⟨g,0,none⟩)∧s13= .int .i64 cd1∧wx.heap[g]?=some (.cells #[.int .i64 pl1,.int .i64 pl2,.int .i64 pl3] 70 (0,0))∧Below wr.heap.size wr wx)
     case first=>
      have q0d:=Ax ((Ag _ wr).drew) a0;have q1d:=Ax ((Ag _ wr).drew) a1;have q2d:=Ax ((Ag _ wr).drew) e4;have q3d:=Ax ((Ag _ wr).drew) hcx0;have q0z:=Ax (((Ag _ wr).alloc (Af _) (.cells zPl 70)).drew) a0;have q1z:=Ax (((Ag _ wr).alloc (Af _) (.cells zPl 70)).drew) a1;have q2z:=Ax (((Ag _ wr).alloc (Af _) (.cells zPl 70)).drew) e4;have q3z:=Ax (((Ag _ wr).alloc (Af _) (.cells zPl 70)).drew) hcx0;go_region_held3 (fun W=>W.cell? ⟨gb,0,none⟩=some (.slice pd D.length cd)∧W.cell? ⟨gb,1,none⟩=some (.slice pf nf cf)∧W.cell? ⟨b,off+a*5+4,none⟩=some (.slice (some ⟨b5,off5,none⟩) sl c4)∧W.cell? ⟨b5,off5+q,none⟩=some (.int .i64 x)) (first|with_reducible exact⟨a0,a1,e4,hcx0⟩|with_reducible exact⟨q0d,q1d,q2d,q3d⟩|with_reducible exact⟨q0z,q1z,q2z,q3z⟩|with_reducible exact⟨q0w,q1w,q2w,q3w⟩|with_reducible exact⟨q0s,q1s,q2s,q3s⟩|with_reducible exact⟨q0u,q1u,q2u,q3u⟩|fail)
       ((first
         |(go_at_call 26
           first
            |(refine(HWX.out _ ((Ag _ wr).drew)).mono ?_
              rintro e w3 ⟨rfl,hb3⟩;have hb4:Below wr.heap.size wr w3:=Kk (w:=wr) hb3 rfl;have q0w:=Ax hb4 a0;have q1w:=Ax hb4 a1;have q2w:=Ax hb4 e4;have q3w:=Ax hb4 hcx0;have q0s:=Ax ((Ag _ w3).alloc (Af _) (.cells zPl 70)) q0w;have q1s:=Ax ((Ag _ w3).alloc (Af _) (.cells zPl 70)) q1w;have q2s:=Ax ((Ag _ w3).alloc (Af _) (.cells zPl 70)) q2w;have q3s:=Ax ((Ag _ w3).alloc (Af _) (.cells zPl 70)) q3w;have q0u:=Ax ((Ag _ w3).alloc (Af _) (.cells #[.int .i64 pl1,.int .i64 pl2,.int .i64 pl3] 70)) q0w;have q1u:=Ax ((Ag _ w3).alloc (Af _) (.cells #[.int .i64 pl1,.int .i64 pl2,.int .i64 pl3] 70)) q1w;have q2u:=Ax ((Ag _ w3).alloc (Af _) (.cells #[.int .i64 pl1,.int .i64 pl2,.int .i64 pl3] 70)) q2w
              have q3u:=Ax ((Ag _ w3).alloc (Af _) (.cells #[.int .i64 pl1,.int .i64 pl2,.int .i64 pl3] 70)) q3w)
            |(refine(HWX.out _ (((Ag _ wr).alloc (Af _) _).drew)).mono ?_
              rintro e w3 ⟨rfl,hb3⟩;obtain⟨hz,hb5⟩:=Ws (w:=wr) hb3;obtain⟨⟨y0,y1,y2⟩,z0,z1,z2⟩:=Bj _ _ _ _ _ _ hz;have hx:=Cy (.int .i64 pl1) (.int .i64 pl2) (.int .i64 pl3) (Af wr.heap.size) hz;have HX:=Aa hx;have q0w:=Ax hb5 a0;have q1w:=Ax hb5 a1;have q2w:=Ax hb5 e4;have q3w:=Ax hb5 hcx0;have hxb:Below wr.heap.size w3 _:=hx.2.below hb5.size;have q0s:=(hxb.cell (Ao wr _ a0)).trans q0w;have q1s:=(hxb.cell (Ao wr _ a1)).trans q1w;have q2s:=(hxb.cell (Ao wr _ e4)).trans q2w;have q3s:=(hxb.cell (Ao wr _ hcx0)).trans q3w;have HXB:=Aa (hb5.trans hxb)
              clear hx hz hb3 hxb)
            |fail)
         |fail))
      all_goals go_wp2_with fail
      all_goals go_meet
      all_goals first
       |exact⟨_,rfl,rfl,HX.out.1,HXB.out⟩
       |exact⟨_,rfl,rfl,Ah _ _,hb4.alloc hb4.size _⟩
       |fail
     case rest=>
      obtain⟨g,rfl,rfl,hg,hbx⟩:=hcut;have a0':=Ax hbx a0;have a1':=Ax hbx a1;have hbw:=HBR.out.trans (hbx.mono (Ar (Ao wr _ a0)));obtain⟨⟨r0,r1,r2⟩,_⟩:=Bj _ _ _ _ _ _ hg;have HBW:=Aa hbw;clear a0 a1 e4 hcx0 hb hbx hg hbw HWX;cases hA:(cd1==0)with
      |false=>
       have HF:Hid ((Bo Az.sig l a (q+1)).any (Gk l D o ((k:Int)+1))=false):=Aa (by rw[HSTEP.out,hA];rfl);go_wp2_with fail
       go_roundw
       case rel=>exact⟨q+1,by go_num,hql,HBW.out,a0',a1',HF.out⟩
       case measure=>simp[intOf];omega
      |true=>
      cases hB:(pl2==(k:Int)+1)with
      |false=>
       have HF:Hid ((Bo Az.sig l a (q+1)).any (Gk l D o ((k:Int)+1))=false):=Aa (by rw[HSTEP.out,hA,hB];rfl);go_wp2_with fail
       go_roundw
       case rel=>exact⟨q+1,by go_num,hql,HBW.out,a0',a1',HF.out⟩
       case measure=>simp[intOf];omega
      |true=>
      cases hC:(pl1==(o:Int))with
      |false=>
       have HF:Hid ((Bo Az.sig l a (q+1)).any (Gk l D o ((k:Int)+1))=false):=Aa (by rw[HSTEP.out,hA,hB,hC];rfl);go_wp2_with fail
       go_roundw
       case rel=>exact⟨q+1,by go_num,hql,HBW.out,a0',a1',HF.out⟩
       case measure=>simp[intOf];omega
      |true=>
       have HF:Hid (nm=true):=Aa (HYES.out (by rw[hA,hB,hC];rfl));go_wp2_with fail
       go_ret;rw[HF.out];exact⟨rfl,HBW.out⟩
    ·have HEND:Hid ((Bc Az.sig l (a+1)).any (Gk l D o ((k:Int)+1))=false):=Aa (by rw[←Ia HOA.out (k:=q) (by omega)];exact HANY2.out);generalize oa.sig.length=sl at*;have jQ:¬(q:Int) < (sl:Int):=by omega
     clear hsig;go_wp2_with fail
     go_roundw
     case rel=>exact⟨a+1,by go_num,by omega,hb,a0,a1,HEND.out⟩
     case measure=>simp[intOf];omega
  ·obtain rfl:a=ln:=by omega
   have HRES:Hid (nm=false):=Aa (by rw[HNM.out];unfold Lm;rw[HLN.out];exact HANY.out);have jA:¬(a:Int) < (a:Int):=by omega
   go_wp2_with fail
   go_ret;rw[HRES.out];exact⟨rfl,hb⟩
end Go.Proofs.YteopgmieindojaaGreat
