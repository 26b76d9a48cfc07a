/- Parts of a proof. -/
import Derived.Test.YteopgmieindojaaGreatGX25
import Derived.Test.YteopgmieindojaaGreatGX26
import Derived.Test.YteopgmieindojaaGreatGX27
import Derived.Test.YteopgmieindojaaGreatGX30
import Derived.Test.YteopgmieindojaaGreatGX03
import Derived.Test.YteopgmieindojaaGreatGX08
import Derived.Test.YteopgmieindojaaGreatGX01
import Derived.Deep.QuietTactic
import Derived.BigQuiet
import Derived.Deep.DeepCutAuto
set_option maxRecDepth 1000000
set_option maxHeartbeats 8000000
namespace Go.Proofs.YteopgmieindojaaGreat
open Go.RowKit
theorem Gx{α:Type}{f:Nat→α→Bool}{l:List α}(h:eachB f l=true){i:Nat}{x:α}(hx:l[i]?=some x):f i x=true:=by
 cases hf:f i x with
 |true=>rfl
 |false=>
  rw[Lq hx hf]at h;cases h
theorem Xc{n:Int}(h:n < 0):∀L:List Int,L.foldl Dj n=n
 | []=>rfl
 |l::r=>by
  have e:Dj n l=n:=by
   unfold Dj hasF;rw[Ai (by omega)];simp
  rw[List.foldl_cons,e];exact Xc h r
theorem Jda(n:Int):∀L:List Int,(∀l∈L,0≤l)→n≤L.foldl Dj n+L.sum
 | [],_=>by simp
 |l::r,h=>by
  have ih:=Jda (Dj n l) r fun x hx=>h x (List.mem_cons_of_mem _ hx);have hl:=h l (List.mem_cons_self ..);have e:n - l≤Dj n l:=by
   unfold Dj;split<;>omega
  rw[List.foldl_cons,List.sum_cons];omega
theorem Jaw{n:Int}(h:flagsB n=true):Bu n=true:=by
 unfold flagsB at h;rw[beq_iff_eq]at h;have h1:0≤n:=by
  by_cases hn:n < 0
  ·rw[Xc hn]at h;omega
  ·omega
 have h2:=Jda n My (by decide);rw[h]at h2;have h3:My.sum=2097847:=by decide
 exact(Bv n).2 ⟨h1,by omega⟩
theorem Jld{n:Int}(h:alignB n=true):Bu n=true:=by
 obtain⟨i,hi,rfl⟩:=(Tc n).1 h;have:=Tt i hi;exact(Bv _).2 ⟨by omega,by omega⟩
theorem Jd4{ty fl al en sz:Int}{dl rl:Nat}{z:Bool}(h:kindB ty fl al en sz dl rl z=true):
 Bu ty=true∧Bu fl=true∧Bu al=true∧Bu en=true∧Bu sz=true∧(ty≠8→sz=dl):=by
 unfold kindB at h;simp only[Bool.cond_eq_ite]at h;split at h
 ·cases h
 ·rename_i h1;simp only[Bool.or_eq_true,Bool.not_eq_true',not_or,Bool.not_eq_false,Bool.and_eq_true]at h1;obtain⟨⟨hfl,hal⟩,_⟩:=h1;have hfl:=Jaw hfl;have hal:=Jld hal;split at h
  ·cases h
  ·rename_i h2;split at h
   ·cases h
   ·rename_i h3;split at h
    ·cases h
    ·rename_i h4;have hty:ty=1∨ty=8:=by
      simp only[Bool.and_eq_true,bne_iff_ne,ne_eq,not_and,Decidable.not_not]at h4;by_cases h:ty=1
      ·exact .inl h
      ·exact .inr (h4 h)
     have hsz:0≤sz∧sz≤2147483647∧(ty≠8→sz=dl):=by
      rcases hty with rfl|rfl
      ·simp at h2;omega
      ·simp at h3;omega
     have hty2:Bu ty=true:=by rcases hty with rfl|rfl<;>rfl
     have hen:Bu en=true:=by
      split at h
      ·simp at h;rw[h.1];rfl
      ·split at h
       ·cases h
       ·split at h
        ·simp at h;rw[h.1.1];rfl
        ·simp at h;rcases h.1.1 with(rfl|rfl)|rfl<;>rfl
     exact⟨hty2,hfl,hal,hen,(Bv sz).2 ⟨hsz.1,hsz.2.1⟩,hsz.2.2⟩
structure Gn(o:Az):Prop where
 secs:o.secs.length≤40
 syms:o.syms.length≤140
 grps:o.groups.length≤40
 sig:o.sig.length≤16384
 data:∀s∈o.secs,s.data.length≤20000∧s.rels.length≤80
 mems:∀g∈o.groups,g.members.length≤50
structure FewD(o:Az):Prop where
 secs:o.secs.length≤1000000
 syms:o.syms.length≤1000000
 grps:o.groups.length≤1000000
 data:∀s∈o.secs,s.data.length≤1000000
 mems:∀g∈o.groups,g.members.length≤1000000
theorem Gn.few{o:Az}(h:Gn o):FewD o:=⟨by have:=h.secs;omega,by have:=h.syms;omega,by have:=h.grps;omega,fun s hs=>by have:=(h.data s hs).1;omega,fun g hg=>by have:=h.mems g hg;omega⟩
def Jou(o:Az):Prop:=∀s∈o.secs,∀r∈s.rels,-9223372036854775808≤r.add∧r.add≤9223372036854775807
theorem Yl{o:Az}(h:shapeB o=true)(hs:Gn o)(hb:Jou o):Ho o:=by
 unfold shapeB at h;simp only[Bool.and_eq_true]at h;obtain⟨⟨⟨⟨hh,hg⟩,hq⟩,hy⟩,hx⟩:=h;have hql:o.secs.length≤32:=by
  unfold headOK at hh;simp only[Bool.and_eq_true,decide_eq_true_eq]at hh;exact hh.1.1.1
 have hyl:o.syms.length≤128:=by
  unfold headOK at hh;simp only[Bool.and_eq_true,decide_eq_true_eq]at hh;exact hh.1.2
 refine⟨hs.secs,hs.syms,hs.grps,hs.sig,fun s hm=>?_,fun g hm=>?_,fun s hm=>?_,fun n hm=>?_⟩
 ·obtain⟨k,hk⟩:=Av hm;have h1:=Gx hq hk;unfold secOK at h1;simp only[Bool.cond_eq_ite]at h1;split at h1
  ·cases h1
  ·rename_i h2;simp only[Bool.or_eq_true,Bool.not_eq_true',not_or,Bool.not_eq_false]at h2;obtain⟨⟨hn,hk1⟩,hr⟩:=h2;split at h1
   ·cases h1
   ·rename_i h3;obtain⟨k1,k2,k3,k4,k5,k6⟩:=Jd4 hk1;have hli:Bu s.link=true:=by
     cases ho:hasF s.flags 128 with
     |true=>
      rw[ho]at h3;simp at h3;exact(Bv _).2 ⟨by omega,by omega⟩
     |false=>
      rw[ho]at h3;simp at h3;rw[h3];rfl
    have hsd:=hs.data s hm;refine⟨k1,k2,k5,hli,k3,k4,hn,hsd.1,hsd.2,k6,fun r hrm=>⟨?_,hb s hm r hrm⟩⟩;obtain⟨i,hi⟩:=Av hrm;unfold relsB at hr;rw[Bool.and_eq_true]at hr;have h5:=List.all_eq_true.1 hr.2 i (List.mem_range.2 (Ab.1 hi).1);rw[Ov hi,Bool.and_eq_true]at h5;have h6:=h5.1;unfold Jc at h6;rw[Bool.and_eq_true]at h6;exact of_decide_eq_true h6.1
 ·obtain⟨k,hk⟩:=Av hm;have h1:=Gx (f:=fun _=>Fx o.secs.length o.syms.length) hg hk;unfold Fx at h1;simp only[Bool.and_eq_true,decide_eq_true_eq]at h1;obtain⟨⟨⟨g1,g2⟩,_⟩,g4⟩:=h1;refine⟨(Bv _).2 ⟨by omega,by omega⟩,hs.mems g hm,fun m hmm=>?_⟩;obtain⟨j,hj⟩:=Av hmm;have h2:=Gx g4 hj;unfold Jb at h2;simp only[Bool.and_eq_true,decide_eq_true_eq]at h2;exact(Bv _).2 ⟨by omega,by omega⟩
 ·obtain⟨k,hk⟩:=Av hm;have h1:=Gx hy hk;unfold symOK at h1
  match k,h1 with
  |0,h1=>
   simp only[sym0B,Bool.and_eq_true,beq_iff_eq]at h1;obtain⟨⟨⟨⟨⟨n0,b0⟩,t0⟩,s0⟩,v0⟩,z0⟩:=h1;have hn:s.name=ByteArray.empty:=by
    rw[←decide_eq_emptyBytes]at n0;exact of_decide_eq_true n0
   rw[hn,b0,t0,s0,v0,z0];exact⟨rfl,rfl,rfl,by omega,by omega,by omega,by omega,by omega,by omega⟩
  |j+1,h1=>
   have hj:j < o.syms.length:=by have:=(Ab.1 hk).1;omega
   simp only[Ae hj]at h1;unfold symNB at h1;simp only[Bool.cond_eq_ite]at h1;split at h1
   ·cases h1
   ·rename_i h2;simp at h2;split at h1
    ·cases h1
    ·rename_i h3;simp at h3;obtain⟨⟨⟨⟨⟨⟨m1,m2⟩,m3⟩,m4⟩,m5⟩,m6⟩,m7⟩:=h2;obtain⟨⟨⟨n1,n2⟩,n3⟩,n4⟩:=h3;exact⟨m1,(Bv _).2 ⟨n3,n4⟩,(Bv _).2 ⟨m6,m7⟩,m2,m3,m4,m5,n1,by omega⟩
 ·obtain⟨k,hk⟩:=Av hm;have h1:=Gx (f:=fun _=>Hp o.syms.length) hx hk;unfold Hp at h1;simp only[Bool.and_eq_true,decide_eq_true_eq]at h1;exact(Bv _).2 ⟨by omega,by omega⟩
def mayO(o:Az):Bool:=shapeB o&&decide ((bytesOf o).length≤16384)
theorem Jls{w:World}{v0 v1 v2 v4:Value}{o:Az}(hp:Dn w v0 v1 v2 v4 o):Jou o:=fun s hs r hr=>by
 obtain⟨⟨p,c,_,_,_,_,hh⟩,_⟩:=hp;obtain⟨i,hi⟩:=Av hs;obtain⟨b,off,_,_,_,_,_,_,_,_,_,⟨v,_,q,c2,_,_,_,_,hr2⟩⟩:=hh i s hi;obtain⟨j,hj⟩:=Av hr;obtain⟨_,_,_,_,_,_,⟨_,hb⟩⟩:=hr2 j r hj;exact hb
theorem Ja{α:Type}{f:Nat→α→Bool}{l:List α}:eachB f l=true ↔∀(i:Nat)(x:α),l[i]?=some x→f i x=true:=by
 constructor
 ·intro h i x hx;exact Gx h hx
 ·intro h;unfold eachB;rw[List.all_eq_true];rintro⟨x,i⟩ hm;exact h i x (List.mem_zipIdx_iff_getElem?.1 hm)
theorem Jh0{α:Type}{f:Nat→α→Bool}{x:α}{l:List α}:eachB f (x::l)=(f 0 x&&eachB (fun i=>f (i+1)) l):=by
 rw[Bool.eq_iff_iff,Bool.and_eq_true,Ja,Ja];constructor
 ·intro h;exact⟨h 0 x rfl,fun i y hy=>h (i+1) y (by simpa using hy)⟩
 ·rintro⟨h0,h1⟩ i y hy
  match i,hy with
  |0,hy=>simp at hy;subst hy;exact h0
  |i+1,hy=>exact h1 i y (by simpa using hy)
theorem Nq{n a b:Int}:inR n a b=true ↔ a≤n∧n≤b:=by
 unfold inR;simp
theorem Jq8(hs:Bool)(yl:Nat)(l:List Int):sigO hs yl l=((hs || l.length==0)&&eachB (fun _=>Hp yl) l):=by
 rw[Bool.eq_iff_iff,Bool.and_eq_true,Ja];unfold sigO;cases hs with
 |true=>
  simp only[Bool.true_or,true_and,cond_true,List.all_eq_true];constructor
  ·intro h i x hx;have:=Nq.1 (h x (Ad hx));unfold Hp;simp;omega
  ·intro h x hx;obtain⟨i,hi⟩:=Av hx;have:=h i x hi;unfold Hp at this;simp at this;exact Nq.2 (by omega)
 |false=>
  simp only[Bool.false_or,cond_false,beq_iff_eq];constructor
  ·intro h;refine⟨h,fun i x hx=>?_⟩;have:=(Ab.1 hx).1;omega
  ·exact fun h=>h.1
theorem Jmi(secs:List Ca)(before:Int)(s:Ct):(bif (s.bind==0)&& !(before==0)then false else symO s&&valO secs s)=symNB secs before s:=by
 unfold symO valO symNB;show _=bif !mayB (lst s.name) || _ || _ || _ || _ || _ || _ then _ else _
 generalize mayB (lst s.name)=m;generalize s.name.toList.isEmpty=e;generalize secSize secs s.sec=z;rw[Bool.eq_iff_iff];unfold inR;cases m<;>cases e<;>simp<;>(try split)<;>omega
theorem Xp(secs:List Ca):∀(t:List Ct)(p:Ct),symsGoO secs (p.bind==0) t=true ↔∀(k:Nat)(s q:Ct),t[k]?=some s→(p::t)[k]?=some q→symNB secs q.bind s=true
 | [],p=>by simp[symsGoO]
 |x::t,p=>by
  have ih:=Xp secs t x;have hs:=Jmi secs p.bind x;have e:symsGoO secs (p.bind==0) (x::t)=(symNB secs p.bind x&&symsGoO secs (x.bind==0) t):=by
   rw[←hs];show(bif (x.bind==0)&& !(p.bind==0)then false else symO x&&(valO secs x&&symsGoO secs (x.bind==0) t))=_;generalize symsGoO secs (x.bind==0) t=r;generalize ((x.bind==0)&& !(p.bind==0))=c;cases c<;>simp[Bool.and_assoc]
  rw[e,Bool.and_eq_true,ih];constructor
  ·rintro⟨h0,h1⟩ k s q hk hq
   match k,hk,hq with
   |0,hk,hq=>simp at hk hq;subst hk hq;exact h0
   |k+1,hk,hq=>exact h1 k s q (by simpa using hk) (by simpa using hq)
  ·intro h;exact⟨h 0 x p rfl rfl,fun k s q hk hq=>h (k+1) s q (by simpa using hk) (by simpa using hq)⟩
theorem Jpq(o:Az):symsO o.secs o.syms=(decide (1≤o.syms.length)&&decide (o.syms.length≤128)&&eachB (symOK o) o.syms):=by
 have hso:∀t,symsO o.secs t=bif decide (128 < t.length)then false else Xu t&&symsGoO o.secs true (t.drop 1):=fun t=>rfl
 cases hl:o.syms with
 |nil=>rfl
 |cons p t=>
  rw[hso];by_cases h128:128 < (p::t).length
  ·rw[Aj h128,Ai (show¬(p::t).length≤128 by omega)];simp
  ·rw[Ai h128,Aj (show(p::t).length≤128 by omega),Aj (show 1≤(p::t).length by simp)];show(sym0B p&&symsGoO o.secs true t)=(true&&true&&eachB (symOK o) (p::t));rw[Bool.and_self,Bool.true_and,Jh0];show _=(sym0B p&&_);cases h0:sym0B p with
   |false=>rfl
   |true=>
    have hb:(p.bind==0)=true:=by
     unfold sym0B at h0;simp only[Bool.and_eq_true]at h0;exact h0.1.1.1.1.2
    rw[Bool.true_and,Bool.true_and,show symsGoO o.secs true t=symsGoO o.secs (p.bind==0) t by rw[hb],Bool.eq_iff_iff,Xp,Ja];constructor
    ·intro h i x hx;show(match o.syms[i]? with|none=>true|some p=>symNB o.secs p.bind x)=true;rw[hl];cases hq:(p::t)[i]? with
     |none=>rfl
     |some q=>exact h i x q hx hq
    ·intro h k s q hk hq;have:=h k s hk;change (match o.syms[k]? with|none=>true|some p=>symNB o.secs p.bind s)=true at this;rw[hl,hq]at this;exact this
theorem Jl2{yl dl:Nat}(hy:yl≤2147483648)(hd:dl≤2147483647){e:Int}(he:0≤e)(r:Ea):
 ((widthI r.type != 0)&&(inR r.sym 0 ((yl:Int) - 1)&&inR r.off e ((dl:Int) - widthI r.type)))=(decide (e≤r.off)&&Jc yl dl r):=by
 have hw:=Rg r.type;unfold Jc Fou.may;show _=(_&&(decide (Bu r.off=true∧Bu r.sym=true∧0 < widthI r.type)&&_));generalize widthI r.type=w at*;rw[Bool.eq_iff_iff];simp only[Bool.and_eq_true,bne_iff_ne,Nq,decide_eq_true_eq,Bv];omega
def Jpe(e:Int)(rs:List Ea)(i:Nat)(r:Ea):Prop:=match i with
 |0=>e≤r.off
 |j+1=>∀p,rs[j]?=some p→p.off+widthI p.type≤r.off
theorem Th{yl dl:Nat}(hy:yl≤2147483648)(hd:dl≤2147483647):∀(rs:List Ea)(e:Int),0≤e→(Gf yl dl e rs=true ↔∀(i:Nat)(r:Ea),rs[i]?=some r→Jc yl dl r=true∧Jpe e rs i r)
 | [],e,_=>by simp[Gf]
 |x::t,e,he=>by
  have hs:=Jl2 hy hd he x;have e1:Gf yl dl e (x::t)=((decide (e≤x.off)&&Jc yl dl x)&&Gf yl dl (x.off+widthI x.type) t):=by
   rw[←hs];show((widthI x.type != 0)&&(inR x.sym 0 ((yl:Int) - 1)&&(inR x.off e ((dl:Int) - widthI x.type)&&Gf yl dl (x.off+widthI x.type) t)))=_;simp only[Bool.and_assoc]
  rw[e1,Bool.and_eq_true,Bool.and_eq_true,decide_eq_true_eq];have hw:=Rg x.type;constructor
  ·rintro⟨⟨h0,h1⟩,h2⟩ i r hr;have ih:=(Th hy hd t (x.off+widthI x.type) (by omega)).1 h2
   match i,hr with
   |0,hr=>simp at hr;subst hr;exact⟨h1,h0⟩
   |i+1,hr=>
    obtain⟨g1,g2⟩:=ih i r (by simpa using hr);refine⟨g1,fun p hp=>?_⟩
    match i,hp,g2 with
    |0,hp,g2=>simp at hp;subst hp;exact g2
    |i+1,hp,g2=>exact g2 p (by simpa using hp)
  ·intro h;obtain⟨g1,g2⟩:=h 0 x rfl;have h0:e≤x.off:=g2;refine⟨⟨h0,g1⟩,(Th hy hd t (x.off+widthI x.type) (by omega)).2 fun i r hr=>?_⟩;obtain⟨k1,k2⟩:=h (i+1) r (by simpa using hr);refine⟨k1,?_⟩
   match i,k2 with
   |0,k2=>exact k2 x rfl
   |i+1,k2=>exact fun p hp=>k2 p (by simpa using hp)
theorem Jo7{yl dl:Nat}(hy:yl≤2147483648)(hd:dl≤2147483647)(rs:List Ea):relsO yl dl rs=relsB yl dl rs:=by
 unfold relsO relsB;by_cases h:64 < rs.length
 ·rw[Aj h,Ai (show¬rs.length≤64 by omega)];rfl
 ·rw[Ai h,Aj (show rs.length≤64 by omega),cond_false,Bool.true_and,Bool.eq_iff_iff,Th hy hd rs 0 (Int.le_refl _),List.all_eq_true];constructor
  ·intro h i hi;cases hr:rs[i]? with
   |none=>unfold Je;rw[hr]
   |some r=>
    obtain⟨g1,g2⟩:=h i r hr;rw[Ov hr,g1,Bool.true_and]
    match i,g2 with
    |0,_=>rfl
    |i+1,g2=>
     show(match rs[i]? with|none=>true|some p=>Qu p r)=true;cases hp:rs[i]? with
     |none=>rfl
     |some p=>exact Aj (g2 p hp)
  ·intro h i r hr;have:=h i (List.mem_range.2 (Ab.1 hr).1);rw[Ov hr,Bool.and_eq_true]at this;obtain⟨g1,g2⟩:=this;refine⟨g1,?_⟩
   match i,g2 with
   |0,_=>
    unfold Jc at g1;rw[Bool.and_eq_true]at g1;have hm:r.fou.may:=of_decide_eq_true g1.1;exact((Bv _).1 hm.1).1
   |i+1,g2=>
    intro p hp;change (match rs[i]? with|none=>true|some p=>Qu p r)=true at g2;rw[hp]at g2;exact of_decide_eq_true g2
theorem Jg0(n j:Nat):n.testBit j=(n / 2 ^ j % 2==1):=by
 rw[Nat.testBit_eq_decide_div_mod_eq];rfl
theorem Jk4{n j:Nat}(h:n.testBit j=true)(i:Nat):(n - 2 ^ j).testBit i=(n.testBit i&& !(i==j)):=by
 rw[Jg0,beq_iff_eq]at h;have hr:n % 2 ^ j < 2 ^ j:=Nat.mod_lt _ (Nat.two_pow_pos j);have h1:=Nat.div_add_mod n (2 ^ j);have h2:n / 2 ^ j=2*(n / 2 ^ j / 2)+1:=by omega
 generalize n % 2 ^ j=r at*;generalize n / 2 ^ j / 2=q at*;rw[h2]at h1;have e1:n - 2 ^ j=2 ^ j*(2*q)+r:=by
  rw[Nat.mul_add,Nat.mul_one]at h1;omega
 rw[e1,←h1,Nat.testBit_two_pow_mul_add _ hr,Nat.testBit_two_pow_mul_add _ hr];by_cases hij:i < j
 ·rw[if_pos hij,if_pos hij,show(i==j)=false by simp;omega];simp
 ·rw[if_neg hij,if_neg hij];by_cases he:i=j
  ·subst he;simp
  ·obtain⟨k,hk⟩:∃k,i - j=k+1:=⟨i - j - 1,by omega⟩
   rw[hk,Nat.testBit_succ,Nat.testBit_succ,show(2*q) / 2=q by omega,show(2*q+1) / 2=q by omega,show(i==j)=false by simpa using he];simp
theorem Jnw(n j:Nat):∃m:Nat,Dj (n:Int) (2 ^ j)=(m:Int)∧∀i,m.testBit i=(n.testBit i&& !(i==j)):=by
 have hd:((n:Int) / 2 ^ j).tmod 2=((n / 2 ^ j % 2:Nat):Int):=by
  rw[show(2:Int) ^ j=((2 ^ j:Nat):Int) by push_cast;rfl,←Int.natCast_ediv,Int.tmod_eq_emod_of_nonneg (Int.natCast_nonneg _)];rfl
 have hh:hasF (n:Int) (2 ^ j)=n.testBit j:=by
  unfold hasF;rw[Aj (Int.natCast_nonneg n),Bool.true_and,hd,Jg0,Bool.eq_iff_iff];simp only[beq_iff_eq];omega
 unfold Dj;rw[hh];cases hb:n.testBit j with
 |true=>
  have hle:2 ^ j≤n:=Nat.ge_two_pow_of_testBit hb;refine⟨n - 2 ^ j,?_,Jk4 hb⟩;rw[if_pos rfl,Int.ofNat_sub hle]
  push_cast
  rfl
 |false=>
  refine⟨n,by simp,fun i=>?_⟩;by_cases he:i=j
  ·subst he;simp[hb]
  ·rw[show(i==j)=false by simpa using he];simp
theorem Jer:∀(js:List Nat)(n:Nat),∃m:Nat,(js.map fun j=>(2:Int) ^ j).foldl Dj (n:Int)=(m:Int)∧∀i,m.testBit i=(n.testBit i&& !js.contains i)
 | [],n=>⟨n,rfl,fun i=>by simp⟩
 |j::js,n=>by
  obtain⟨m,h1,h2⟩:=Jnw n j;obtain⟨m',h3,h4⟩:=Jer js m;refine⟨m',?_,fun i=>?_⟩
  ·rw[List.map_cons,List.foldl_cons,h1,h3]
  ·rw[h4,h2,List.contains_cons];cases n.testBit i<;>cases (i==j)<;>simp
def Jb8:List Nat:= [0,1,2,4,5,7,9,21]
theorem Jnu:(Jb8.map fun j=>(2:Int) ^ j)=My:=by decide
theorem Jm0:∀i,i < 64→(2097847:Nat).testBit i=Jb8.contains i:=by decide
theorem Jjt{n:Nat}(h:n < 2 ^ 64):(IntKind.i64.wrap (n:Int)==0)=(n==0):=by
 rw[Bool.eq_iff_iff,beq_iff_eq,beq_iff_eq,IntKind.wrap_i64];have:(2:Nat) ^ 64=18446744073709551616:=by decide
 omega
theorem Jnq{fl:Int}(h0: -9223372036854775808≤fl)(h1:fl≤9223372036854775807):(bits .andNot .i64 fl 2097847==0)=flagsB fl:=by
 show(IntKind.i64.wrap (((BitVec.ofInt 64 fl&&& ~~~BitVec.ofInt 64 2097847).toNat:Nat):Int)==0)=_;rw[Jjt (BitVec.isLt _)];by_cases hn:fl < 0
 ·have e:flagsB fl=false:=by
   unfold flagsB;rw[Xc hn];simp;omega
  rw[e];have hm:(BitVec.ofInt 64 fl&&& ~~~BitVec.ofInt 64 2097847).msb=true:=by
   rw[BitVec.msb_and];have m1:(BitVec.ofInt 64 fl).msb=true:=by
    rw[BitVec.msb_eq_toInt,BitVec.toInt_ofInt_eq_self (by decide) (by omega) (by omega)];simpa using hn
   have m2:(~~~BitVec.ofInt 64 2097847).msb=true:=by decide
   rw[m1,m2];rfl
  rw[beq_eq_false_iff_ne];intro hz;have:BitVec.ofInt 64 fl&&& ~~~BitVec.ofInt 64 2097847=0#64:=BitVec.eq_of_toNat_eq (by simpa using hz);rw[this]at hm;simp at hm
 ·obtain⟨n,rfl⟩:=Au (show 0≤fl by omega);have hn64:n < 2 ^ 64:=by
   have:(2:Nat) ^ 64=18446744073709551616:=by decide
   omega
  obtain⟨m,hm1,hm2⟩:=Jer Jb8 n;rw[Jnu]at hm1;have e:flagsB (n:Int)=(m==0):=by
   unfold flagsB;rw[hm1,Bool.eq_iff_iff,beq_iff_eq,beq_iff_eq];omega
  rw[e,Bool.eq_iff_iff,beq_iff_eq,beq_iff_eq];have hbit:∀i,i < 64→(BitVec.ofInt 64 (n:Int)&&& ~~~BitVec.ofInt 64 2097847).toNat.testBit i=(n.testBit i&& !Jb8.contains i):=fun i hi=>by
   rw[←Jm0 i hi];rw[BitVec.testBit_toNat,BitVec.getLsbD_and,BitVec.getLsbD_not,BitVec.ofInt_natCast,show(2097847:Int)=((2097847:Nat):Int) from rfl,BitVec.ofInt_natCast,BitVec.getLsbD_ofNat,BitVec.getLsbD_ofNat,Aj hi];simp
  constructor
  ·intro hz;refine Nat.eq_of_testBit_eq fun i=>?_;rw[hm2,Nat.zero_testBit];by_cases hi:i < 64
   ·rw[←hbit i hi,hz,Nat.zero_testBit]
   ·have:n.testBit i=false:=Nat.testBit_lt_two_pow (Nat.lt_of_lt_of_le hn64 (Nat.pow_le_pow_right (by omega) (by omega)));rw[this];rfl
  ·intro hz;refine Nat.eq_of_testBit_eq fun i=>?_;rw[Nat.zero_testBit];by_cases hi:i < 64
   ·rw[hbit i hi,←hm2,hz,Nat.zero_testBit]
   ·exact Nat.testBit_lt_two_pow (Nat.lt_of_lt_of_le (BitVec.isLt _) (Nat.pow_le_pow_right (by omega) (by omega)))
theorem Jmo:(List.range 4097).all (fun n=>(decide (1≤n)&&(n&&&(n - 1))==0)==(List.range 13).any fun i=>n==2 ^ i)=true:=by decide+kernel
theorem Jmb(al:Int):(inR al 1 4096&&(bits .and .i64 al (al - 1)==0))=alignB al:=by
 by_cases h:1≤al∧al≤4096
 ·obtain⟨n,rfl⟩:=Au (show 0≤al by omega);have h1:=List.all_eq_true.1 Jmo n (List.mem_range.2 (by omega));rw[beq_iff_eq,Aj (by omega),Bool.true_and]at h1;have hp:(2:Nat) ^ 63=9223372036854775808:=by decide
  have hb:=(bits_nat .i64 63 (by decide) Jbg n (n - 1) (by omega) (by omega)).1;rw[show((n - 1:Nat):Int)=(n:Int) - 1 by omega]at hb;rw[hb,Nq.2 h,Bool.true_and];have e:alignB (n:Int)=(List.range 13).any fun i=>n==2 ^ i:=by
   unfold alignB;congr 1;funext i;rw[Bool.eq_iff_iff,beq_iff_eq,beq_iff_eq,show(2:Int) ^ i=((2 ^ i:Nat):Int) by push_cast;rfl];omega
  rw[e,←h1,Bool.eq_iff_iff,beq_iff_eq,beq_iff_eq];omega
 ·have e1:inR al 1 4096=false:=by
   rw[Bool.eq_false_iff];intro hc;exact h (Nq.1 hc)
  have e2:alignB al=false:=by
   rw[Bool.eq_false_iff];intro hc;obtain⟨i,hi,rfl⟩:=(Tc al).1 hc;have:=Tt i hi;exact h (by omega)
  rw[e1,e2];rfl
theorem Jsl(nm:ByteArray)(ty al en sz:Int){fl:Int}(dl rl:Nat)(last0:Bool)(h0: -9223372036854775808≤fl)(h1:fl≤9223372036854775807):
 secO nm ty fl al en sz dl rl last0=(mayB (lst nm)&&kindB ty fl al en sz dl rl last0):=by
 have hs:secO nm ty fl al en sz dl rl last0=(mayB (lst nm)&&(flagsB fl&&(alignB al&&(typeO ty fl sz dl&&mergeO fl al en sz dl rl last0)))):=by
  rw[←Jnq h0 h1,←Jmb];unfold secO;simp only[Bool.and_assoc]
 rw[hs];congr 1;cases hf:flagsB fl with
 |false=>
  unfold kindB;rw[hf];rfl
 |true=>
  have hp:=(Bv fl).1 (Jaw hf);have e0:hasO fl 1=hasF fl 1:=Ld 0 (by omega) hp.1 h1;have e2:hasO fl 4=hasF fl 4:=Ld 2 (by omega) hp.1 h1;have e4:hasO fl 16=hasF fl 16:=Ld 4 (by omega) hp.1 h1;have e5:hasO fl 32=hasF fl 32:=Ld 5 (by omega) hp.1 h1;unfold typeO mergeO kindB;rw[hf,e0,e2,e4,e5];unfold inR;generalize hasF fl 1=a;generalize hasF fl 4=b;generalize hasF fl 16=c;generalize hasF fl 32=d;generalize alignB al=g;generalize (sz.tmod en==0)=t;rw[Bool.eq_iff_iff];cases a<;>cases b<;>cases c<;>cases d<;>cases g<;>cases t<;>cases last0<;>simp<;>(try split)<;>(try split)<;>omega
def Rn(ql:Nat):Int→List Int→Prop
 |_, []=>True
 |last,x::t=>last < x∧x≤(ql:Int)∧Rn ql x t
theorem Pu{ql:Nat}:∀{ms:List Int}{last:Int},Rn ql last ms→∀y∈ms,last < y∧y≤(ql:Int)
 | [],_,_,y,hy=>by simp at hy
 |x::t,last,⟨h1,h2,h3⟩,y,hy=>by
  rcases List.mem_cons.1 hy with rfl|hy
  ·exact⟨h1,h2⟩
  ·have:=Pu h3 y hy;exact⟨by omega,this.2⟩
theorem Xd{ql:Nat}:∀{ms:List Int}{last:Int},Rn ql last ms→∀y,ms.count y≤1
 | [],_,_,y=>by simp
 |x::t,last,⟨h1,h2,h3⟩,y=>by
  rw[List.count_cons];by_cases hxy:x=y
  ·subst hxy;have:t.count x=0:=List.count_eq_zero.2 fun hm=>by have:=(Pu h3 x hm).1;omega
   rw[this];simp
  ·have:=Xd h3 y;simp[hxy];exact this
def prevE(last:Int)(ms:List Int)(k:Nat):Int:=match k with
 |0=>last
 |j+1=>ms.getD j 0
theorem Wp{ql:Nat}:∀{ms:List Int}{last:Int},Rn ql last ms ↔∀(k:Nat)(x:Int),ms[k]?=some x→prevE last ms k < x∧x≤(ql:Int)
 | [],last=>by simp[Rn]
 |x::t,last=>by
  have ih:=Wp (ql:=ql) (ms:=t) (last:=x);constructor
  ·rintro⟨h1,h2,h3⟩ k y hy
   match k,hy with
   |0,hy=>simp at hy;subst hy;exact⟨h1,h2⟩
   |k+1,hy=>
    obtain⟨g1,g2⟩:=ih.1 h3 k y (by simpa using hy);refine⟨?_,g2⟩
    match k,g1 with
    |0,g1=>exact g1
    |j+1,g1=>exact g1
  ·intro h;obtain⟨h1,h2⟩:=h 0 x rfl;refine⟨h1,h2,ih.2 fun k y hy=>?_⟩;obtain⟨g1,g2⟩:=h (k+1) y (by simpa using hy);refine⟨?_,g2⟩
   match k,g1 with
   |0,g1=>exact g1
   |j+1,g1=>exact g1
theorem Jbd{ql:Nat}{ms:List Int}:eachB (Jb ql ms) ms=true ↔ Rn ql 0 ms:=by
 rw[Ja];constructor
 ·intro h;refine Wp.2 fun k x hx=>?_;have:=h k x hx;unfold Jb at this;rw[Bool.and_eq_true,Bool.and_eq_true,decide_eq_true_eq,decide_eq_true_eq]at this;obtain⟨⟨h1,h2⟩,h3⟩:=this;refine⟨?_,h2⟩
  match k,h3 with
  |0,_=>show(0:Int) < x;omega
  |j+1,h3=>exact of_decide_eq_true h3
 ·intro h k x hx;have h0:=(Pu h x (Ad hx)).1;obtain⟨h1,h2⟩:=Wp.1 h k x hx;unfold Jb;rw[Bool.and_eq_true,Bool.and_eq_true,decide_eq_true_eq,decide_eq_true_eq];refine⟨⟨by omega,h2⟩,?_⟩
  match k,h1 with
  |0,_=>rfl
  |j+1,h1=>exact Aj h1
theorem Ya{ql:Nat}:∀(ms:List Int)(last:Int)(gd:List Bool),0≤last→gd.length=ql→
 (∃gd',Fh ql last gd ms=some gd'∧gd'.length=ql∧Rn ql last ms∧(∀y∈ms,gd[(y - 1).toNat]?=some false)∧∀m,m < ql→gd'[m]?=some (gd[m]?.getD true || ms.contains ((m:Int)+1)))∨
 (Fh ql last gd ms=none∧(¬Rn ql last ms∨∃y∈ms,gd[(y - 1).toNat]?≠some false))
 | [],last,gd,_,hl=> .inl ⟨gd,rfl,hl,trivial,fun y hy=>by simp at hy,fun m hm=>by
     rw[Ae (by omega)]
     simp⟩
 |x::t,last,gd,h0,hl=>by
  have e:Fh ql last gd (x::t)=bif inR x (last+1) (ql:Int)&& !(gd[(x - 1).toNat]?.getD true)then Fh ql x (gd.set (x - 1).toNat true) t else none:=rfl
  cases hi:inR x (last+1) (ql:Int)with
  |false=>
   rw[hi]at e;refine .inr ⟨e,.inl fun hm=>?_⟩;have:inR x (last+1) (ql:Int)=true:=Nq.2 ⟨by have:=hm.1;omega,hm.2.1⟩;rw[hi]at this;cases this
  |true=>
   have hir:=Nq.1 hi;obtain⟨m,rfl⟩:∃m:Nat,x=(m:Int)+1:=⟨(x - 1).toNat,by omega⟩
   have hmn:((m:Int)+1 - 1).toNat=m:=by omega
   rw[hi,hmn]at e;have hgm:gd[m]?=some gd[m]:=Ae (by omega);cases hb:gd[m]with
   |true=>
    rw[hb]at hgm;rw[hgm]at e;refine .inr ⟨e,.inr ⟨_,List.mem_cons_self ..,?_⟩⟩;rw[hmn,hgm];simp
   |false=>
    rw[hb]at hgm;rw[hgm]at e;have hset:∀y:Int,(m:Int)+1 < y→(gd.set m true)[(y - 1).toNat]?=gd[(y - 1).toNat]?:=fun y hy=>by
     rw[List.getElem?_set_ne (by omega)]
    rcases Ya (ql:=ql) t ((m:Int)+1) (gd.set m true) (by omega) (by rw[List.length_set];exact hl)with⟨gd',g1,g2,g3,g4,g5⟩|⟨g1,g2⟩
    ·have hgt:=Pu g3;refine .inl ⟨gd',by rw[e];exact g1,g2,⟨by omega,hir.2,g3⟩,fun y hy=>?_,fun j hj=>?_⟩
     ·rcases List.mem_cons.1 hy with rfl|hy
      ·rw[hmn];exact hgm
      ·rw[←hset y (hgt y hy).1];exact g4 y hy
     ·rw[g5 j hj,List.contains_cons];by_cases hjm:j=m
      ·subst hjm;rw[List.getElem?_set_self (by omega)];simp
      ·rw[List.getElem?_set_ne (by omega),show(((j:Int)+1)==(m:Int)+1)=false by simp;omega];simp
    ·refine .inr ⟨by rw[e];exact g1,?_⟩;by_cases hp:Rn ql ((m:Int)+1) t
     ·rcases g2 with g2|⟨y,hy,g2⟩
      ·exact absurd hp g2
      ·rw[hset y (Pu hp y hy).1]at g2;exact .inr ⟨y,List.mem_cons_of_mem _ hy,g2⟩
     ·exact .inl fun hm=>hp hm.2.2
theorem Jw(g:Cs)(gs:List Cs)(n:Int):memberN (g::gs) n=g.members.count n+memberN gs n:=by simp[memberN]
theorem Yb{ql yl:Nat}:∀(gs:List Cs)(gd:List Bool)(c:Nat→Nat),gd.length=ql→(∀m,m < ql→gd[m]?=some (c m==1)∧c m≤1)→
 (∃gd',Gp ql yl gd gs=some gd'∧(∀g∈gs,Fx ql yl g=true)∧∀m,m < ql→gd'[m]?=some (c m+memberN gs ((m:Int)+1)==1)∧c m+memberN gs ((m:Int)+1)≤1)∨
 (Gp ql yl gd gs=none∧((∃g∈gs,Fx ql yl g=false)∨∃m,m < ql∧2≤c m+memberN gs ((m:Int)+1)))
 | [],gd,c,hl,hc=> .inl ⟨gd,rfl,fun g hg=>by simp at hg,fun m hm=>by simpa[memberN]using hc m hm⟩
 |g::gs,gd,c,hl,hc=>by
  have e:Gp ql yl gd (g::gs)=bif inR g.sym 1 ((yl:Int) - 1)&& !(g.members.length==0)then
   match Fh ql 0 gd g.members with
   |none=>none
   |some gd'=>Gp ql yl gd' gs
   else none:=rfl
  have hk:Fx ql yl g=(inR g.sym 1 ((yl:Int) - 1)&& !(g.members.length==0)&&eachB (Jb ql g.members) g.members):=by
   unfold Fx inR;congr 1;rw[Bool.eq_iff_iff];simp only[Bool.and_eq_true,decide_eq_true_eq,Bool.not_eq_true',beq_eq_false_iff_ne];omega
  cases hq:(inR g.sym 1 ((yl:Int) - 1)&& !(g.members.length==0))with
  |false=>
   rw[hq]at e hk;exact .inr ⟨e,.inl ⟨g,List.mem_cons_self ..,by rw[hk];rfl⟩⟩
  |true=>
   rw[hq]at e hk;rcases Ya g.members 0 gd (Int.le_refl _) hl with⟨gd1,g1,g2,g3,g4,g5⟩|⟨g1,g2⟩
   ·rw[g1]at e;have hcnt:=Xd g3;have hgok:Fx ql yl g=true:=by rw[hk,Jbd.2 g3];rfl
    have hzero:∀m,m < ql→g.members.count ((m:Int)+1)=1→c m=0:=fun m hm h1=>by
     have hmem:((m:Int)+1)∈g.members:=List.count_pos_iff.1 (by omega);have:=g4 _ hmem;rw[show((m:Int)+1 - 1).toNat=m by omega,(hc m hm).1]at this;have h2:=(hc m hm).2;have h3:(c m==1)=false:=by simpa using this
     have h4:c m≠1:=by simpa using h3
     omega
    have hc':∀m,m < ql→gd1[m]?=some (c m+g.members.count ((m:Int)+1)==1)∧c m+g.members.count ((m:Int)+1)≤1:=fun m hm=>by
     have h1:=hcnt ((m:Int)+1);have h2:=(hc m hm).2;have h3:=hzero m hm;refine⟨?_,by omega⟩;rw[g5 m hm,(hc m hm).1];congr 1;show((c m==1) || g.members.contains ((m:Int)+1))=_;by_cases hmem:((m:Int)+1)∈g.members
     ·have h4:=List.count_pos_iff.2 hmem;have h5:=h3 (by omega);rw[h5,show g.members.count ((m:Int)+1)=1 by omega,List.contains_iff_mem.2 hmem];rfl
     ·have h4:=List.count_eq_zero.2 hmem;rw[h4,Nat.add_zero,show g.members.contains ((m:Int)+1)=false by rw[Bool.eq_false_iff];exact fun h=>hmem (List.contains_iff_mem.1 h)];simp
    have hl1:gd1.length=ql:=g2;rcases Yb gs gd1 (fun m=>c m+g.members.count ((m:Int)+1)) hl1 hc' with⟨gd',k1,k2,k3⟩|⟨k1,k2⟩
    ·refine .inl ⟨gd',by rw[e];exact k1,fun x hx=>?_,fun m hm=>?_⟩
     ·rcases List.mem_cons.1 hx with rfl|hx
      ·exact hgok
      ·exact k2 x hx
     ·have:=k3 m hm;rw[Jw,←Nat.add_assoc];exact this
    ·refine .inr ⟨by rw[e];exact k1,?_⟩;rcases k2 with⟨x,hx,h⟩|⟨m,hm,h⟩
     ·exact .inl ⟨x,List.mem_cons_of_mem _ hx,h⟩
     ·refine .inr ⟨m,hm,?_⟩;rw[Jw,←Nat.add_assoc];exact h
   ·rw[g1]at e;refine .inr ⟨e,?_⟩;by_cases hp:Rn ql 0 g.members
    ·rcases g2 with g2|⟨y,hy,g2⟩
     ·exact absurd hp g2
     ·have hgt:=Pu hp y hy;refine .inr ⟨(y - 1).toNat,by omega,?_⟩;have h1:(c (y - 1).toNat==1)=true:=by
       rw[(hc _ (by omega)).1]at g2;simpa using g2
      have h2:c (y - 1).toNat=1:=by simpa using h1
      have h3:0 < g.members.count y:=List.count_pos_iff.2 hy;rw[Jw,show(((y - 1).toNat:Nat):Int)+1=y by omega];omega
    ·refine .inl ⟨g,List.mem_cons_self ..,?_⟩;rw[hk,Bool.true_and,Bool.eq_false_iff];exact fun h=>hp (Jbd.1 h)
def Qt(gs:List Cs)(f:Bool)(k:Nat):Bool:=(((memberN gs ((k:Int)+1):Int)==0)&& !f) || (((memberN gs ((k:Int)+1):Int)==1)&&f)
theorem Jhp(secs:List Ca)(yl:Nat)(gs:List Cs):groupsO secs yl gs=true ↔(∀g∈gs,Fx secs.length yl g=true)∧∀(k:Nat)(s:Ca),secs[k]?=some s→Qt gs (hasO s.flags 512) k=true:=by
 have e:groupsO secs yl gs=match Gp secs.length yl (List.replicate secs.length false) gs with
  |none=>false
  |some gd=>eachB (Ke gd) secs:=rfl
 rw[e];rcases Yb (ql:=secs.length) (yl:=yl) gs (List.replicate secs.length false) (fun _=>0) List.length_replicate (fun m hm=>⟨by rw[List.getElem?_replicate,if_pos hm];rfl,Ak _⟩)with⟨gd,h1,h2,h3⟩|⟨h1,h2⟩
 ·rw[h1];show eachB (Ke gd) secs=true ↔ _;rw[Ja];have hx:∀(k:Nat)(s:Ca),secs[k]?=some s→Ke gd k s=Qt gs (hasO s.flags 512) k:=fun k s hs=>by
   obtain⟨g1,g2⟩:=h3 k (Ab.1 hs).1;unfold Ke Qt;rw[g1];rw[Nat.zero_add]at g2;rw[Nat.zero_add];generalize memberN gs ((k:Int)+1)=m at*;generalize hasO s.flags 512=f;have:m=0∨m=1:=by omega
   rcases this with rfl|rfl<;>cases f<;>rfl
  exact⟨fun h=>⟨h2,fun k s hs=>by rw[←hx k s hs];exact h k s hs⟩,fun h k s hs=>by rw[hx k s hs];exact h.2 k s hs⟩
 ·rw[h1];constructor
  ·intro h;cases h
  ·rintro⟨g1,g2⟩;rcases h2 with⟨g,hg,h⟩|⟨m,hm,h⟩
   ·rw[g1 g hg]at h;cases h
   ·have:=g2 m _ (Ae hm);unfold Qt at this;rw[Nat.zero_add]at h;generalize memberN gs ((m:Int)+1)=q at*;simp at this;omega
def butO(o:Az):Bool:=bif decide (o.secs.length≤32)then symsO o.secs o.syms&&(groupsO o.secs o.syms.length o.groups&&(eachB (secAllO o.secs.length o.syms.length) o.secs&&sigO o.hasSig o.syms.length o.sig))else false
def Jjx(o:Az):Prop:=∀s∈o.secs,-9223372036854775808≤s.flags∧s.flags≤9223372036854775807
theorem Jp0{fl li:Int}(k ql:Nat)(h0:0≤fl)(h1:fl≤9223372036854775807):
 linkO fl li ((k:Int)+1) (ql:Int)= !((hasF fl 128&&(decide (li < 1) || decide ((ql:Int) < li) || (li==(k:Int)+1))) || (!hasF fl 128&&(li != 0))):=by
 have e:hasO fl 128=hasF fl 128:=Ld 7 (by omega) h0 h1;unfold linkO inR;rw[e];generalize hasF fl 128=b;rw[Bool.eq_iff_iff];cases b<;>simp<;>omega
theorem Jr2{o:Az}(hs:FewD o)(hf:Jjx o):butO o=shapeB o:=by
 have hb:butO o=(decide (o.secs.length≤32)&&(symsO o.secs o.syms&&(groupsO o.secs o.syms.length o.groups&&(eachB (secAllO o.secs.length o.syms.length) o.secs&&sigO o.hasSig o.syms.length o.sig)))):=by
  unfold butO;cases decide (o.secs.length≤32)<;>rfl
 have hy:=hs.syms;have hsec:∀(k:Nat)(s:Ca),o.secs[k]?=some s→(secAllO o.secs.length o.syms.length k s&&Qt o.groups (hasO s.flags 512) k)=secOK o.secs.length o.syms.length o.groups k s:=fun k s hk=>by
  have hm:=Ad hk;obtain⟨f0,f1⟩:=hf s hm;have hd:=hs.data s hm;have e1:=Jsl s.name s.type s.align s.ent s.size s.data.length s.rels.length (s.data.getLast?==some 0) f0 f1;have e2:=Jo7 (yl:=o.syms.length) (dl:=s.data.length) (by omega) (by omega) s.rels;unfold secAllO secOK;rw[e1,e2];show _=(bif !mayB (lst s.name) || !kindS s || _ then _ else _);have hks:kindB s.type s.flags s.align s.ent s.size s.data.length s.rels.length (s.data.getLast?==some 0)=kindS s:=rfl;rw[hks];cases hk1:kindS s with
  |false=>simp
  |true=>
   have hp:=(Bv _).1 (Jd4 hk1).2.1;have e3:hasO s.flags 512=hasF s.flags 512:=Ld 9 (by omega) hp.1 f1;rw[Jp0 k o.secs.length hp.1 f1,e3];unfold Qt;generalize (hasF s.flags 128&&(decide (s.link < 1) || decide ((o.secs.length:Int) < s.link) || (s.link==(k:Int)+1)) || !hasF s.flags 128&&(s.link != 0))=q1;generalize mayB (lst s.name)=q2;generalize relsB o.syms.length s.data.length s.rels=q3;cases q1<;>cases q2<;>cases q3<;>simp
 rw[hb,Jpq,Jq8];unfold shapeB headOK;rw[Bool.eq_iff_iff];simp only[Bool.and_eq_true,Jhp];have key:((∀g∈o.groups,Fx o.secs.length o.syms.length g=true)∧∀(k:Nat)(s:Ca),o.secs[k]?=some s→Qt o.groups (hasO s.flags 512) k=true)∧eachB (secAllO o.secs.length o.syms.length) o.secs=true ↔
  eachB (fun _=>Fx o.secs.length o.syms.length) o.groups=true∧eachB (secOK o.secs.length o.syms.length o.groups) o.secs=true:=by
  rw[Ja,Ja,Ja];constructor
  ·rintro⟨⟨h1,h2⟩,h3⟩;exact⟨fun i g hg=>h1 g (Ad hg),fun k s hk=>by rw[←hsec k s hk,h3 k s hk,h2 k s hk];rfl⟩
  ·rintro⟨h1,h2⟩;have h3:∀(k:Nat)(s:Ca),o.secs[k]?=some s→secAllO o.secs.length o.syms.length k s=true∧Qt o.groups (hasO s.flags 512) k=true:=fun k s hk=>by
    have:=h2 k s hk;rw[←hsec k s hk,Bool.and_eq_true]at this;exact this
   refine⟨⟨fun g hg=>?_,fun k s hk=>(h3 k s hk).2⟩,fun k s hk=>(h3 k s hk).1⟩;obtain⟨i,hi⟩:=Av hg;exact h1 i g hi
 constructor
 ·rintro⟨a1,⟨⟨a2,a3⟩,a4⟩,a5,a6,a7,a8⟩;obtain⟨k1,k2⟩:=key.1 ⟨a5,a6⟩;exact⟨⟨⟨⟨⟨⟨⟨a1,a2⟩,a3⟩,a7⟩,k1⟩,k2⟩,a4⟩,a8⟩
 ·rintro⟨⟨⟨⟨⟨⟨⟨a1,a2⟩,a3⟩,a7⟩,k1⟩,k2⟩,a4⟩,a8⟩;obtain⟨a5,a6⟩:=key.2 ⟨k1,k2⟩;exact⟨a1,⟨⟨a2,a3⟩,a4⟩,a5,a6,a7,a8⟩
theorem Jhk{gs:List Cs}{g:Cs}{m:Int}(hg:g∈gs)(hm:m∈g.members):1≤memberN gs m:=by
 induction gs with
 |nil=>cases hg
 |cons x xs ih=>
  rw[Jw];rcases List.mem_cons.1 hg with rfl|h
  ·have:=List.count_pos_iff.2 hm;omega
  ·have:=ih h;omega
theorem Wl{m:Int}{g h:Cs}(hg:m∈g.members)(hh:m∈h.members):∀{gs:List Cs}{a b:Nat},gs[a]?=some g→gs[b]?=some h→a < b→2≤memberN gs m
 | [],_,_,h,_,_=>by simp at h
 |x::xs,0,b+1,ha,hb,_=>by
  rw[Jw];simp at ha hb;subst ha;have h1:=List.count_pos_iff.2 hg;have h2:=Jhk (Ad hb) hh;omega
 |x::xs,a+1,b+1,ha,hb,hlt=>by
  rw[Jw];simp at ha hb;have:=Wl hg hh ha hb (by omega);omega
theorem Jrj{o:Az}(h:shapeB o=true)(hs:Gn o):OkD o:=by
 unfold shapeB at h;simp only[Bool.and_eq_true]at h;obtain⟨⟨⟨⟨h1,h2⟩,h3⟩,h4⟩,h5⟩:=h;unfold headOK at h1;simp only[Bool.and_eq_true,decide_eq_true_eq]at h1;obtain⟨⟨⟨q1,y0⟩,y1⟩,_⟩:=h1;have hg:∀g∈o.groups,(1≤g.sym∧g.sym < (o.syms.length:Int))∧∀m∈g.members,1≤m∧m≤(o.secs.length:Int):=fun g hg=>by
  obtain⟨i,hi⟩:=Av hg;have:=Gx h2 hi;unfold Fx at this;simp only[Bool.and_eq_true,decide_eq_true_eq]at this;obtain⟨⟨⟨a,b⟩,_⟩,c⟩:=this;refine⟨⟨a,b⟩,fun m hm=>?_⟩;obtain⟨j,hj⟩:=Av hm;have:=Gx c hj;unfold Jb at this;simp only[Bool.and_eq_true,decide_eq_true_eq]at this;exact this.1
 have hy:∀s∈o.syms,(-1≤s.sec∧s.sec≤(o.secs.length:Int))∧0≤s.bind∧s.bind≤2:=fun s hs'=>by
  obtain⟨i,hi⟩:=Av hs';have hk:=Gx h4 hi;unfold symOK at hk;cases i with
  |zero=>
   simp only[sym0B,Bool.and_eq_true,beq_iff_eq]at hk;omega
  |succ j=>
   have hjl:j < o.syms.length:=by have:=(Ab.1 hi).1;omega
   simp only[Ae hjl]at hk;unfold symNB at hk;cases c1:(!mayB s.name.data.toList || decide (s.bind < 0) || decide (2 < s.bind) || decide (s.type < 0) || decide (3 < s.type) || decide (s.size < 0) || decide (2147483647 < s.size))with
   |true=>rw[c1]at hk;cases hk
   |false=>
    rw[c1]at hk;cases c2:(decide (s.sec < -1) || decide ((o.secs.length:Int) < s.sec) || decide (s.value < 0) || decide (2147483647 < s.value))with
    |true=>rw[c2]at hk;cases hk
    |false=>
     simp only[Bool.or_eq_false_iff,decide_eq_false_iff_not]at c1 c2;omega
 refine⟨fun g h=>(hg g h).1,fun g h=>(hg g h).2,?_,fun s h=>(hy s h).1,fun s h=>(hy s h).2,by omega,by omega,by have:=hs.grps;omega,by have:=hs.sig;omega,fun g h=>by have:=hs.mems g h;omega⟩;intro a b g h ha hb hab m hm n hn hmn e;subst e;have h2m:=Wl hn hm ha hb hab;have hr:=(hg h (Ad hb)).2 m hm;obtain⟨s,hs'⟩:∃s,o.secs[(m - 1).toNat]?=some s:=⟨_,Ae (by omega)⟩
 have hk:=Gx h3 hs';unfold secOK at hk;rw[show(((m - 1).toNat:Nat):Int)+1=m by omega]at hk;have h0:((memberN o.groups m:Int)==0)=false:=beq_eq_false_iff_ne.2 (by omega);have h1':((memberN o.groups m:Int)==1)=false:=beq_eq_false_iff_ne.2 (by omega);rw[h0,h1']at hk
 revert hk
 cases (!mayB s.name.data.toList || !kindS s || !relsB o.syms.length s.data.length s.rels)<;>simp
def Jr8:Prop:=∀(t:Ten)(w:World),(t.may→Calls Tryz.prog 126 #[t.v] w (Fe (sectB t) w))∧(¬t.may→Calls Tryz.prog 126 #[t.v] w (Md 0 [] w))
end Go.Proofs.YteopgmieindojaaGreat
