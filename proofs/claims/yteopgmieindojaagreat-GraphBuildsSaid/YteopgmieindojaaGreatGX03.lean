/- Parts of a proof. -/
import Derived.Test.YteopgmieindojaaGreatGX01
import Derived.BigQuiet
import Derived.OwnWalk
import Derived.LoopTactic
import Derived.Lib.Hide
import Derived.Outline
import Derived.WalkSpells
import Derived.Deep.CutBlock
import Derived.Deep.DeepCutAuto
import Derived.Deep.QuietTactic
import Derived.Deep.RegionHeld
import Derived.Deep.RegionHeld3
import Derived.Deep.RegionWith
import Derived.Deep.RegionLaw
import Derived.StillTailTactics
import Derived.Laws.ResultCell
set_option maxRecDepth 1000000
set_option maxHeartbeats 8000000
namespace Go.Proofs.YteopgmieindojaaGreat
open Go.RowKit
def Eh{α:Type}(f:Az→List α)(i:Nat)(o:Az):List (Nat × Nat × α):=(f o).mapIdx fun k x=>(i,k,x)
def Bc{α:Type}(f:Az→List α)(l:List Az):Nat→List (Nat × Nat × α)
 |0=> []
 |i+1=>Bc f l i++match l[i]? with|some o=>Eh f i o|none=> []
def Bo{α:Type}(f:Az→List α)(l:List Az)(i k:Nat):List (Nat × Nat × α):=Bc f l i++match l[i]? with|some o=>(Eh f i o).take k|none=> []
theorem He{α:Type}(f:Az→List α)(i:Nat)(o:Az):(Eh f i o).length=(f o).length:=by simp[Eh]
theorem Pn{α:Type}{f:Az→List α}{i k:Nat}{o:Az}{x:α}(h:(f o)[k]?=some x):(Eh f i o)[k]?=some (i,k,x):=by
 simp[Eh,List.getElem?_mapIdx,h]
theorem Eb{α:Type}(f:Az→List α)(l:List Az)(i:Nat):Bo f l i 0=Bc f l i:=by
 unfold Bo;cases l[i]?<;>simp
theorem Fp{α:Type}{f:Az→List α}{l:List Az}{i k:Nat}{o:Az}{x:α}(ho:l[i]?=some o)(hx:(f o)[k]?=some x):Bo f l i (k+1)=Bo f l i k++ [(i,k,x)]:=by
 unfold Bo;rw[ho];simp only;have hk:k < (Eh f i o).length:=by rw[He];exact(Ab.1 hx).1
 have:=Pn (i:=i) hx;rw[List.take_succ_eq_append_getElem hk,←List.append_assoc,(Ab.1 this).2]
theorem Ia{α:Type}{f:Az→List α}{l:List Az}{i k:Nat}{o:Az}(ho:l[i]?=some o)(hk:(f o).length≤k):Bo f l i k=Bc f l (i+1):=by
 unfold Bo
 conv=>rhs;unfold Bc
 rw[ho];simp only;rw[List.take_of_length_le (by rw[He];exact hk)]
theorem Gh{α:Type}{f:Az→List α}{l:List Az}{i k:Nat}{x:α}:∀{n:Nat},(i,k,x)∈Bc f l n ↔ i < n∧∃o,l[i]?=some o∧(f o)[k]?=some x
 |0=>by simp[Bc]
 |n+1=>by
  unfold Bc;rw[List.mem_append,Gh];constructor
  ·rintro(⟨h1,o,h2,h3⟩|h)
   ·exact⟨by omega,o,h2,h3⟩
   ·cases ho:l[n]? with
    |none=>rw[ho]at h;cases h
    |some o=>
     rw[ho]at h;simp only at h;unfold Eh at h;rw[List.mem_mapIdx]at h;obtain⟨j,hj,e⟩:=h;cases e;exact⟨by omega,o,ho,Ae hj⟩
  ·rintro⟨h1,o,h2,h3⟩;rcases Nat.lt_or_ge i n with hlt|hge
   ·exact .inl ⟨hlt,o,h2,h3⟩
   ·obtain rfl:i=n:=by omega
    refine .inr ?_;rw[h2];exact Ad (Pn h3)
def sEq(x y:ByteArray):Bool:=x.toList==y.toList
def sLt(x y:ByteArray):Bool:=Op.bytesLess x.toList y.toList
theorem Df{x y:ByteArray}:sEq x y=true ↔ x=y:=by
 unfold sEq;rw[beq_iff_eq];constructor
 ·intro h;rw[ByteArray.toList_eq,ByteArray.toList_eq]at h;exact ByteArray.ext (Array.ext' h)
 ·rintro rfl;rfl
theorem Ig(x:ByteArray):sEq x x=true:=Df.2 rfl
theorem Job:∀x y:List UInt8,Op.bytesLess x y=true ↔ x < y:=by
 intro x
 induction x with
 |nil=>intro y;cases y<;>simp[Op.bytesLess]
 |cons a x ih=>
  intro y;cases y with
  |nil=>simp[Op.bytesLess]
  |cons b y=>
   unfold Op.bytesLess;rw[List.cons_lt_cons_iff,Bool.or_eq_true,Bool.and_eq_true,decide_eq_true_eq,beq_iff_eq,ih]
theorem Lu{x y:ByteArray}:sLt x y=true ↔ x.data.toList < y.data.toList:=by
 unfold sLt;rw[ByteArray.toList_eq,ByteArray.toList_eq,Job]
theorem Gw(x:ByteArray):sLt x x=false:=by
 cases h:sLt x x with
 |false=>rfl
 |true=>exact absurd (Lu.1 h) (List.lt_irrefl _)
theorem Oq{x y z:ByteArray}(h1:sLt x y=true)(h2:sLt y z=true):sLt x z=true:=Lu.2 (List.lt_trans (Lu.1 h1) (Lu.1 h2))
theorem Ub{x y:ByteArray}(h:sEq x y=false)(h1:sLt x y=false):sLt y x=true:=by
 have hne:¬x=y:=fun e=>by rw[e,Ig]at h;cases h
 have h2:¬x.data.toList < y.data.toList:=fun hh=>by rw[Lu.2 hh]at h1;cases h1
 refine Lu.2 ?_;have h3:y.data.toList≤x.data.toList:=List.not_lt.1 h2;rcases List.le_iff_lt_or_eq.1 h3 with h4|h4
 ·exact h4
 ·exact absurd (ByteArray.ext (Array.ext' h4.symm)) hne
def Ff(o:Az)(n:Int):ByteArray:=match o.syms[n.toNat]? with|some s=>s.name|none=>⟨#[]⟩
def Lx(l:List Az)(x:Nat × Nat × Cs):ByteArray:=match l[x.1]? with|some o=>Ff o x.2.2.sym|none=>⟨#[]⟩
def metB(l:List Az)(i k:Nat)(name:ByteArray):Bool:=(Bo Az.groups l i k).any fun x=>sEq (Lx l x) name
def Dy(out:List Bool)(ms:List Int)(b:Bool):List Bool:=ms.foldl (fun acc m=>acc.set (m - 1).toNat b) out
theorem Pb(ms:List Int)(b:Bool):∀out:List Bool,(Dy out ms b).length=out.length:=by
 induction ms with
 |nil=>intro out;rfl
 |cons m ms ih=>intro out;show(Dy (out.set _ b) ms b).length=_;rw[ih,List.length_set]
theorem Vp(out:List Bool)(ms:List Int)(m:Int)(b:Bool):Dy out (ms++ [m]) b=(Dy out ms b).set (m - 1).toNat b:=by
 unfold Dy;rw[List.foldl_append];rfl
def Dk(l:List Az)(i:Nat)(o:Az):Nat→List Bool
 |0=>List.replicate o.secs.length false
 |k+1=>match o.groups[k]? with
  |none=>Dk l i o k
  |some g=>bif metB l i k (Ff o g.sym)then Dy (Dk l i o k) g.members true else Dk l i o k
def Jh(l:List Az)(i:Nat):List Bool:=match l[i]? with|some o=>Dk l i o o.groups.length|none=> []
def Cx(l:List Az)(i:Nat)(o:Az):Nat→List Bool
 |0=>List.replicate o.secs.length false
 |k+1=>match o.groups[k]? with
  |none=>Cx l i o k
  |some g=>Dy (Cx l i o k) g.members (metB l i k (Ff o g.sym))
def dropsOf(l:List Az):List (List Bool):=(List.range l.length).map (Jh l)
theorem Gg(l:List Az)(i:Nat)(o:Az):∀k,(Dk l i o k).length=o.secs.length
 |0=>by simp[Dk]
 |k+1=>by
  unfold Dk;cases o.groups[k]? with
  |none=>exact Gg l i o k
  |some g=>
   simp only;cases metB l i k (Ff o g.sym)with
   |true=>show(Dy _ _ _).length=_;rw[Pb];exact Gg l i o k
   |false=>exact Gg l i o k
def Wm(o:Az):Prop:=∀(a b:Nat)(g h:Cs),o.groups[a]?=some g→o.groups[b]?=some h→a < b→∀m∈h.members,∀n∈g.members,1≤m∧1≤n→m≠n
def Jht(o:Az):Prop:=∀g∈o.groups,∀m∈g.members,1≤m∧m≤(o.secs.length:Int)
theorem Wh:∀(ms:List Int)(out:List Bool),(∀m∈ms,out[(m - 1).toNat]?.getD false=false)→Dy out ms false=out
 | [],_,_=>rfl
 |m::ms,out,h=>by
  have h1:out.set (m - 1).toNat false=out:=by
   have h2:=h m (by simp);apply List.ext_getElem?;intro j;rw[List.getElem?_set];split
   ·rename_i e;subst e;split
    ·rename_i hl;rw[Ae hl]at h2⊢;simpa using h2.symm
    ·rename_i hl;rw[List.getElem?_eq_none (by omega)]
   ·rfl
  show Dy (out.set _ false) ms false=out;rw[h1];exact Wh ms out fun x hx=>h x (by simp[hx])
theorem Xr(j:Nat)(b:Bool):∀(ms:List Int)(out:List Bool),(∀m∈ms,(m - 1).toNat≠j)→(Dy out ms b)[j]?=out[j]?
 | [],_,_=>rfl
 |m::ms,out,h=>by
  show(Dy (out.set _ b) ms b)[j]?=_;rw[Xr j b ms _ fun x hx=>h x (by simp[hx]),List.getElem?_set_ne (h m (by simp))]
theorem Xt{l:List Az}{i:Nat}{o:Az}{j:Nat}:∀k,(∀(a:Nat)(g:Cs),a < k→o.groups[a]?=some g→∀m∈g.members,(m - 1).toNat≠j)→(Dk l i o k)[j]?.getD false=false
 |0,_=>by
  unfold Dk;rw[List.getElem?_replicate];split<;>rfl
 |k+1,h=>by
  have ih:=Xt (l:=l) (i:=i) k fun a g ha=>h a g (by omega);unfold Dk;cases hg:o.groups[k]? with
  |none=>exact ih
  |some g=>
   simp only;cases metB l i k (Ff o g.sym)with
   |false=>exact ih
   |true=>
    show(Dy _ _ _)[j]?.getD false=false;rw[Xr j true _ _ (h k g (by omega) hg)];exact ih
theorem Qh{l:List Az}{i:Nat}{o:Az}(h1:Wm o)(h2:Jht o):∀k,Cx l i o k=Dk l i o k
 |0=>rfl
 |k+1=>by
  unfold Cx Dk;rw[Qh h1 h2 k];cases hg:o.groups[k]? with
  |none=>rfl
  |some g=>
   simp only;cases metB l i k (Ff o g.sym)with
   |true=>rfl
   |false=>
    show Dy _ _ false=_;refine Wh _ _ fun m hm=>Xt k fun a g' ha hg' n hn=>?_;have hm1:=h2 g (Ad hg) m hm;have hn1:=h2 g' (Ad hg') n hn;have:=h1 a k g' g hg' hg ha m hm n hn ⟨hm1.1,hn1.1⟩;omega
structure Bb where
 name:ByteArray
 obj:Nat
 sym:Nat
abbrev Sy:=Nat × Nat × Ct
def Cw(s:Ct)(dr:List Bool):Bool:=bif s.bind==0 || s.sec==0 then false else s.sec== -1 || !(dr[(s.sec - 1).toNat]?.getD false)
def Cz(D:List (List Bool))(i:Nat):List Bool:=D[i]?.getD []
def Ii(D:List (List Bool))(name:ByteArray)(bind:Int)(x:Sy):Bool:=Cw x.2.2 (Cz D x.1)&&(sEq x.2.2.name name&&x.2.2.bind==bind)
def hitsIn(xs:List Sy)(D:List (List Bool))(name:ByteArray)(bind:Int):List Sy:=xs.filter (Ii D name bind)
def Ef(name:ByteArray)(hs:List Sy):Option Bb:=hs.head?.map fun x=>⟨name,x.1,x.2.1⟩
def findIn(xs:List Sy)(D:List (List Bool))(name:ByteArray):Option Bb:=match Ef name (hitsIn xs D name 1)with
 |some d=>some d
 |none=>Ef name (hitsIn xs D name 2)
def Fs(l:List Bb)(d:Bb):List Bb:=bif l.any (fun e=>sEq e.name d.name)then l else l.filter (fun e=>sLt e.name d.name)++ [d]++l.filter (fun e=>sLt d.name e.name)
def Dz(l:List Bb):Prop:=l.Pairwise fun a b=>sLt a.name b.name=true
theorem Jfx{l:List Bb}{d:Bb}(h:Dz l):Dz (Fs l d):=by
 unfold Fs;cases hc:l.any (fun e=>sEq e.name d.name)with
 |true=>exact h
 |false=>
  show Dz (_++_++_);unfold Dz;rw[List.append_assoc,List.pairwise_append];refine⟨List.Pairwise.filter _ h,?_,?_⟩
  ·show List.Pairwise _ (d::_);rw[List.pairwise_cons];exact⟨fun e he=>(List.mem_filter.1 he).2,List.Pairwise.filter _ h⟩
  ·intro a ha b hb;have h1:=(List.mem_filter.1 ha).2;rcases List.mem_cons.1 hb with rfl|hb
   ·exact h1
   ·exact Oq h1 (List.mem_filter.1 hb).2
theorem Jn8{l:List Bb}{d e:Bb}(h:∀x∈l,x.name=d.name→x=d):e∈Fs l d ↔ e∈l∨e=d:=by
 unfold Fs;cases hc:l.any (fun e=>sEq e.name d.name)with
 |true=>
  obtain⟨x,hx,he⟩:=List.any_eq_true.1 hc;have:=h x hx (Df.1 he);subst this;exact⟨.inl,fun h=>h.elim id fun h=>by rw[h];exact hx⟩
 |false=>
  show e∈_++_++_ ↔ _;rw[List.mem_append,List.mem_append,List.mem_filter,List.mem_filter,List.mem_singleton];constructor
  ·rintro((h|h)|h)
   ·exact .inl h.1
   ·exact .inr h
   ·exact .inl h.1
  ·rintro(h|h)
   ·have hne:sEq e.name d.name=false:=by
     have:=List.any_eq_false.1 hc e h;simpa using this
    cases hl:sLt e.name d.name with
    |true=>exact .inl (.inl ⟨h,rfl⟩)
    |false=>exact .inr ⟨h,Ub hne hl⟩
   ·exact .inl (.inr h)
theorem Xw:∀{a b:List Bb},Dz a→Dz b→(∀x,x∈a ↔ x∈b)→a=b
 | [], [],_,_,_=>rfl
 | [],y::b,_,_,h=>absurd ((h y).2 (by simp)) (by simp)
 |x::a, [],_,_,h=>absurd ((h x).1 (by simp)) (by simp)
 |x::a,y::b,ha,hb,h=>by
  obtain⟨ha1,ha2⟩:=List.pairwise_cons.1 ha;obtain⟨hb1,hb2⟩:=List.pairwise_cons.1 hb;have hirr:∀z:Bb,¬sLt z.name z.name=true:=fun z hz=>by rw[Gw]at hz;cases hz
  have hxy:x=y:=by
   rcases List.mem_cons.1 ((h x).1 (by simp))with rfl|h1
   ·rfl
   ·rcases List.mem_cons.1 ((h y).2 (by simp))with rfl|h2
    ·rfl
    ·exact absurd (Oq (hb1 x h1) (ha1 y h2)) (hirr y)
  subst hxy;congr 1;refine Xw ha2 hb2 fun z=>⟨fun hz=>?_,fun hz=>?_⟩
  ·rcases List.mem_cons.1 ((h z).1 (by simp[hz]))with rfl|h1
   ·exact absurd (ha1 z hz) (hirr z)
   ·exact h1
  ·rcases List.mem_cons.1 ((h z).2 (by simp[hz]))with rfl|h1
   ·exact absurd (hb1 z hz) (hirr z)
   ·exact h1
def refStep(xs:List Sy)(D:List (List Bool))(x:Sy)(st:List Bb × Bool):Option (List Bb × Bool):=
 bif x.2.2.bind==0 then some st else
 bif decide (1 < (hitsIn xs D x.2.2.name 1).length)then none else
 match findIn xs D x.2.2.name with
 |some d=>some (Fs st.1 d,st.2)
 |none=>some (st.1,st.2 || x.2.2.bind==1)
def Dl(xs:List Sy)(D:List (List Bool)):List Sy→List Bb × Bool→Option (List Bb × Bool)
 | [],st=>some st
 |x::r,st=>match refStep xs D x st with
  |none=>none
  |some st'=>Dl xs D r st'
theorem Yt{name:ByteArray}{hs:List Sy}{d:Bb}(h:Ef name hs=some d):d.name=name:=by
 unfold Ef at h;cases hq:hs.head? with
 |none=>rw[hq]at h;cases h
 |some x=>rw[hq]at h;cases h;rfl
theorem Ru{xs:List Sy}{D:List (List Bool)}{name:ByteArray}{d:Bb}(h:findIn xs D name=some d):d.name=name:=by
 unfold findIn at h;cases hq:Ef name (hitsIn xs D name 1)with
 |none=>rw[hq]at h;exact Yt h
 |some x=>rw[hq]at h;cases h;exact Yt hq
def Yk(xs:List Sy)(D:List (List Bool))(ys:List Sy)(st:List Bb × Bool):Prop:=
 Dz st.1∧(∀d,d∈st.1 ↔∃x∈ys,x.2.2.bind≠0∧findIn xs D x.2.2.name=some d)∧st.2=ys.any fun x=>x.2.2.bind==1&&(findIn xs D x.2.2.name).isNone
theorem Jcq{xs:List Sy}{D:List (List Bool)}{x:Sy}{st:List Bb × Bool}(h:refStep xs D x st=none):1 < (hitsIn xs D x.2.2.name 1).length:=by
 unfold refStep at h;cases h0:x.2.2.bind==0 with
 |true=>rw[h0]at h;cases h
 |false=>
  rw[h0]at h;cases h1:decide (1 < (hitsIn xs D x.2.2.name 1).length)with
  |true=>exact of_decide_eq_true h1
  |false=>
   rw[h1]at h;cases h2:findIn xs D x.2.2.name<;>simp[h2]at h
theorem Jdx{xs:List Sy}{D:List (List Bool)}{x:Sy}{ys:List Sy}{st st':List Bb × Bool}(hi:Yk xs D ys st)(h:refStep xs D x st=some st'):
 Yk xs D (ys++ [x]) st'∧(x.2.2.bind≠0→¬1 < (hitsIn xs D x.2.2.name 1).length):=by
 obtain⟨i1,i2,i3⟩:=hi;unfold refStep at h;cases h0:x.2.2.bind==0 with
 |true=>
  rw[h0]at h;cases h;have hb:x.2.2.bind=0:=by simpa using h0
  refine⟨⟨i1,fun d=>?_,?_⟩,fun hn=>absurd hb hn⟩
  ·rw[i2 d];constructor
   ·rintro⟨y,hy,h⟩;exact⟨y,by simp[hy],h⟩
   ·rintro⟨y,hy,h⟩;rcases List.mem_append.1 hy with hy|hy
    ·exact⟨y,hy,h⟩
    ·obtain rfl:=List.mem_singleton.1 hy;exact absurd hb h.1
  ·rw[i3,List.any_append,List.any_cons,hb];simp
 |false=>
  rw[h0]at h;have hb:x.2.2.bind≠0:=by simpa using h0
  cases h1:decide (1 < (hitsIn xs D x.2.2.name 1).length)with
  |true=>rw[h1]at h;cases h
  |false=>
   rw[h1]at h;refine⟨?_,fun _=>of_decide_eq_false h1⟩;cases h2:findIn xs D x.2.2.name with
   |some d0=>
    simp only[h2,cond_false,Option.some.injEq]at h;subst h;have hu:∀y∈st.1,y.name=d0.name→y=d0:=fun y hy hn=>by
     obtain⟨z,_,_,hz⟩:=(i2 y).1 hy;have e1:=Ru hz;have e2:=Ru h2;rw[←e1,hn,e2,h2]at hz;cases hz;rfl
    refine⟨Jfx i1,fun d=>?_,?_⟩
    ·rw[Jn8 hu,i2 d];constructor
     ·rintro(⟨y,hy,h⟩|rfl)
      ·exact⟨y,by simp[hy],h⟩
      ·exact⟨x,by simp,hb,h2⟩
     ·rintro⟨y,hy,h⟩;rcases List.mem_append.1 hy with hy|hy
      ·exact .inl ⟨y,hy,h⟩
      ·obtain rfl:=List.mem_singleton.1 hy;rw[h2]at h;exact .inr (by have:=h.2;cases this;rfl)
    ·rw[List.any_append,←i3];simp[h2]
   |none=>
    simp only[h2,cond_false,Option.some.injEq]at h;subst h;refine⟨i1,fun d=>?_,?_⟩
    ·rw[i2 d];constructor
     ·rintro⟨y,hy,h⟩;exact⟨y,by simp[hy],h⟩
     ·rintro⟨y,hy,h⟩;rcases List.mem_append.1 hy with hy|hy
      ·exact⟨y,hy,h⟩
      ·obtain rfl:=List.mem_singleton.1 hy;rw[h2]at h;cases h.2
    ·rw[List.any_append,←i3];simp[h2]
theorem Ja8{xs:List Sy}{D:List (List Bool)}:∀(r ys:List Sy)(st:List Bb × Bool),Yk xs D ys st→
 (Dl xs D r st=none→∃x∈r,1 < (hitsIn xs D x.2.2.name 1).length)∧∀st',Dl xs D r st=some st'→Yk xs D (ys++r) st'∧∀x∈r,x.2.2.bind≠0→¬1 < (hitsIn xs D x.2.2.name 1).length
 | [],ys,st,hi=>⟨(fun h=>by cases h),(fun st' h=>by cases h;exact⟨by rw[List.append_nil];exact hi,(fun x hx=>by cases hx)⟩)⟩
 |x::r,ys,st,hi=>by
  unfold Dl;cases hs:refStep xs D x st with
  |none=>exact⟨fun _=>⟨x,by simp,Jcq hs⟩,(fun st' h=>by cases h)⟩
  |some st1=>
   obtain⟨h1,h2⟩:=Jdx hi hs;obtain⟨h3,h4⟩:=Ja8 r (ys++ [x]) st1 h1;refine⟨fun h=>?_,fun st' h=>?_⟩
   ·obtain⟨y,hy,h⟩:=h3 h;exact⟨y,by simp[hy],h⟩
   ·obtain⟨h5,h6⟩:=h4 st' h;refine⟨by simpa using h5,fun y hy=>?_⟩;rcases List.mem_cons.1 hy with rfl|hy
    ·exact h2
    ·exact h6 y hy
def ownStep(D:List (List Bool))(bindOf:Bb→Int)(x:Sy)(m:List Bb):Option (List Bb):=
 bif Cw x.2.2 (Cz D x.1)then
  match m.find? (fun e=>sEq e.name x.2.2.name)with
  |some d=>bif bindOf d==1&&x.2.2.bind==1 then none else
   bif x.2.2.bind==1 then some (m.map fun e=>bif sEq e.name x.2.2.name then⟨x.2.2.name,x.1,x.2.1⟩else e)else some m
  |none=>some (m++ [⟨x.2.2.name,x.1,x.2.1⟩])
 else some m
def Dw(D:List (List Bool))(bindOf:Bb→Int):List Sy→List Bb→Option (List Bb)
 | [],m=>some m
 |x::r,m=>match ownStep D bindOf x m with
  |none=>none
  |some m'=>Dw D bindOf r m'
def Iw(m:List Bb):Prop:=m.Pairwise fun a b=>a.name≠b.name
theorem Ot(ys:List Sy)(x:Sy)(D:List (List Bool))(name:ByteArray)(b:Int):hitsIn (ys++ [x]) D name b=hitsIn ys D name b++bif Ii D name b x then [x]else []:=by
 unfold hitsIn;rw[List.filter_append];congr 1
theorem Jj4{name:ByteArray}{a b:List Sy}:Ef name (a++b)=match Ef name a with|some d=>some d|none=>Ef name b:=by
 cases a<;>rfl
theorem Kg{name:ByteArray}{a:List Sy}:Ef name a=none ↔ a= []:=by
 cases a<;>simp[Ef]
theorem Qr{m:List Bb}{name:ByteArray}{d:Bb}(h:m.find? (fun e=>sEq e.name name)=some d):d.name=name:=by
 have h1:=List.find?_some h;exact Df.1 h1
theorem Pz{m:List Bb}(ha:Iw m){d:Bb}:d∈m ↔ m.find? (fun e=>sEq e.name d.name)=some d:=by
 induction m with
 |nil=>simp
 |cons x m ih=>
  obtain⟨h1,h2⟩:=List.pairwise_cons.1 ha;rw[List.find?_cons];cases hx:sEq x.name d.name with
  |true=>
   have hn:=Df.1 hx;constructor
   ·intro h;rcases List.mem_cons.1 h with rfl|h
    ·rfl
    ·exact absurd hn (h1 d h)
   ·intro h;cases h;simp
  |false=>
   simp only;rw[←ih h2,List.mem_cons];constructor
   ·rintro(rfl|h)
    ·rw[Ig]at hx;cases hx
    ·exact h
   ·exact .inr
theorem Jns{m:List Bb}{n name:ByteArray}{d:Bb}(hd:d.name=n):(m.map fun e=>bif sEq e.name n then d else e).find? (fun e=>sEq e.name name)=bif sEq n name then(match m.find? (fun e=>sEq e.name n)with|some _=>some d|none=>none)else m.find? (fun e=>sEq e.name name):=by
 induction m with
 |nil=>cases sEq n name<;>rfl
 |cons x m ih=>
  rw[List.map_cons,List.find?_cons,ih,List.find?_cons,List.find?_cons];cases hx:sEq x.name n with
  |true=>
   have hxn:=Df.1 hx;rw[cond_true,hd,hxn];cases hn:sEq n name<;>rfl
  |false=>
   rw[cond_false];cases hn:sEq n name with
   |true=>
    obtain rfl:=Df.1 hn;rw[hx]
   |false=>rfl
def Sd(D:List (List Bool))(_bindOf:Bb→Int)(ys:List Sy)(m:List Bb):Prop:=
 Iw m∧(∀name,m.find? (fun e=>sEq e.name name)=findIn ys D name)∧∀name,(hitsIn ys D name 1).length≤1
theorem Jic{D:List (List Bool)}{name:ByteArray}{b:Int}{x:Sy}(hn:sEq x.2.2.name name=false):Ii D name b x=false:=by
 unfold Ii;rw[hn];simp
theorem Jlz{D:List (List Bool)}{name:ByteArray}{b:Int}{x:Sy}(h:Cw x.2.2 (Cz D x.1)=false):Ii D name b x=false:=by
 unfold Ii;rw[h];rfl
theorem Jhv{D:List (List Bool)}{name:ByteArray}{b:Int}{x:Sy}(h:x.2.2.bind≠b):Ii D name b x=false:=by
 unfold Ii;rw[show(x.2.2.bind==b)=false by simpa using h];simp
theorem Jlb{D:List (List Bool)}{x:Sy}(h:Cw x.2.2 (Cz D x.1)=true):Ii D x.2.2.name x.2.2.bind x=true:=by
 unfold Ii;rw[h,Ig];simp
theorem Jfq{ys:List Sy}{D:List (List Bool)}{bindOf:Bb→Int}{name:ByteArray}{d:Bb}(hb:∀x∈ys,bindOf ⟨x.2.2.name,x.1,x.2.1⟩=x.2.2.bind)(h:findIn ys D name=some d):
 (bindOf d=1∧hitsIn ys D name 1≠ [])∨(bindOf d=2∧hitsIn ys D name 1= []):=by
 have hh:∀b,Ef name (hitsIn ys D name b)=some d→bindOf d=b:=fun b h=>by
  unfold Ef at h;cases hq:(hitsIn ys D name b).head? with
  |none=>rw[hq]at h;cases h
  |some x=>
   rw[hq]at h;have hm:x∈hitsIn ys D name b:=List.mem_of_mem_head? hq;obtain⟨h1,h2⟩:=List.mem_filter.1 hm;unfold Ii at h2;simp only[Bool.and_eq_true,beq_iff_eq]at h2;have e:x.2.2.name=name:=Df.1 h2.2.1;have hx:=hb x h1;cases h;rw[←e,hx,h2.2.2]
 unfold findIn at h;cases h1:Ef name (hitsIn ys D name 1)with
 |some d'=>
  rw[h1]at h;cases h;exact .inl ⟨hh 1 h1,fun e=>by rw[Kg.2 e]at h1;cases h1⟩
 |none=>
  rw[h1]at h;exact .inr ⟨hh 2 h,Kg.1 h1⟩
theorem Jf5{D:List (List Bool)}{bindOf:Bb→Int}{x:Sy}{ys:List Sy}{m:List Bb}(hi:Sd D bindOf ys m)(hb:∀y∈ys,bindOf ⟨y.2.2.name,y.1,y.2.1⟩=y.2.2.bind)
 (hx:Cw x.2.2 (Cz D x.1)=true→x.2.2.bind=1∨x.2.2.bind=2):
 (ownStep D bindOf x m=none→1 < (hitsIn (ys++ [x]) D x.2.2.name 1).length)∧∀m',ownStep D bindOf x m=some m'→Sd D bindOf (ys++ [x]) m':=by
 obtain⟨i1,i2,i3⟩:=hi;unfold ownStep;cases hd:Cw x.2.2 (Cz D x.1)with
 |false=>
  rw[cond_false];refine⟨(fun h=>by cases h),fun m' h=>?_⟩;cases h;have e:∀name b,hitsIn (ys++ [x]) D name b=hitsIn ys D name b:=fun name b=>by rw[Ot,Jlz hd];simp
  refine⟨i1,fun name=>?_,fun name=>by rw[e];exact i3 name⟩;rw[i2];unfold findIn;rw[e,e]
 |true=>
  rw[cond_true];have hf:=i2 x.2.2.name;have e1:∀name,sEq x.2.2.name name=false→∀b,hitsIn (ys++ [x]) D name b=hitsIn ys D name b:=fun name hn b=>by rw[Ot,Jic hn];simp
  have e2:∀b,b≠x.2.2.bind→hitsIn (ys++ [x]) D x.2.2.name b=hitsIn ys D x.2.2.name b:=fun b hn=>by rw[Ot,Jhv (fun h=>hn h.symm)];simp
  have e3:hitsIn (ys++ [x]) D x.2.2.name x.2.2.bind=hitsIn ys D x.2.2.name x.2.2.bind++ [x]:=by rw[Ot,Jlb hd];rfl
  have hoth:∀name,sEq x.2.2.name name=false→findIn (ys++ [x]) D name=findIn ys D name:=fun name hn=>by unfold findIn;rw[e1 name hn,e1 name hn]
  cases hq:m.find? (fun e=>sEq e.name x.2.2.name)with
  |none=>
   simp only;refine⟨(fun h=>by cases h),fun m' h=>?_⟩;cases h;rw[hq]at hf;have h1:hitsIn ys D x.2.2.name 1= []∧hitsIn ys D x.2.2.name 2= []:=by
    unfold findIn at hf;cases hh:Ef x.2.2.name (hitsIn ys D x.2.2.name 1)with
    |some d=>rw[hh]at hf;cases hf
    |none=>rw[hh]at hf;exact⟨Kg.1 hh,Kg.1 hf.symm⟩
   have hnew:findIn (ys++ [x]) D x.2.2.name=some ⟨x.2.2.name,x.1,x.2.1⟩:=by
    unfold findIn;rcases hx hd with hb1|hb2
    ·rw[hb1]at e3;rw[e3,h1.1];rfl
    ·rw[hb2]at e3;rw[e2 1 (by omega),h1.1,e3,h1.2];rfl
   refine⟨?_,fun name=>?_,fun name=>?_⟩
   ·unfold Iw;rw[List.pairwise_append];refine⟨i1,List.pairwise_singleton _ _,fun a ha b hb=>?_⟩;obtain rfl:=List.mem_singleton.1 hb;intro he;have:=List.find?_eq_none.1 hq a ha;rw[he,Ig]at this;exact this rfl
   ·rw[List.find?_append];cases hn:sEq x.2.2.name name with
    |true=>
     obtain rfl:=Df.1 hn;rw[hq,hnew];simp[Ig]
    |false=>
     rw[hoth name hn,←i2 name];cases m.find? (fun e=>sEq e.name name)with
     |none=>simp[hn]
     |some d=>rfl
   ·cases hn:sEq x.2.2.name name with
    |false=>rw[e1 name hn];exact i3 name
    |true=>
     obtain rfl:=Df.1 hn;rcases hx hd with hb1|hb2
     ·rw[hb1]at e3;rw[e3,h1.1];simp
     ·rw[e2 1 (by omega),h1.1];simp
  |some d=>
   simp only;rw[hq]at hf;rcases Jfq hb hf.symm with⟨b1,hne⟩|⟨b2,hem⟩
   ·rw[b1];rcases hx hd with hb1|hb2
    ·rw[hb1]at e3;rw[hb1];refine⟨fun _=>?_,(fun m' h=>by cases h)⟩;rw[e3,List.length_append];have:=List.length_pos_iff.2 hne;simp;omega
    ·rw[hb2]at e3;rw[hb2];refine⟨(fun h=>by cases h),fun m' h=>?_⟩;cases h;refine⟨i1,fun name=>?_,fun name=>?_⟩
     ·rw[i2];cases hn:sEq x.2.2.name name with
      |false=>rw[hoth name hn]
      |true=>
       obtain rfl:=Df.1 hn;unfold findIn;rw[e2 1 (by omega)];cases hh:Ef x.2.2.name (hitsIn ys D x.2.2.name 1)with
       |some d=>rfl
       |none=>exact absurd (Kg.1 hh) hne
     ·cases hn:sEq x.2.2.name name with
      |false=>rw[e1 name hn];exact i3 name
      |true=>
       obtain rfl:=Df.1 hn;rw[e2 1 (by omega)];exact i3 _
   ·rw[b2];rcases hx hd with hb1|hb2
    ·rw[hb1]at e3;rw[hb1];refine⟨(fun h=>by cases h),fun m' h=>?_⟩;cases h;refine⟨?_,fun name=>?_,fun name=>?_⟩
     ·unfold Iw;rw[List.pairwise_map];refine i1.imp fun{a b} hab=>?_;cases ha:sEq a.name x.2.2.name with
      |true=>
       cases hb:sEq b.name x.2.2.name with
       |true=>exact absurd ((Df.1 ha).trans (Df.1 hb).symm) hab
       |false=>intro he;rw[show b.name=x.2.2.name from he.symm,Ig]at hb;cases hb
      |false=>
       cases hb:sEq b.name x.2.2.name with
       |true=>intro he;rw[show a.name=x.2.2.name from he,Ig]at ha;cases ha
       |false=>exact hab
     ·rw[Jns (n:=x.2.2.name) (d:=⟨x.2.2.name,x.1,x.2.1⟩) rfl];cases hn:sEq x.2.2.name name with
      |false=>rw[hoth name hn,cond_false];exact i2 name
      |true=>
       obtain rfl:=Df.1 hn;rw[hq];unfold findIn;rw[e3,hem];rfl
     ·cases hn:sEq x.2.2.name name with
      |false=>rw[e1 name hn];exact i3 name
      |true=>
       obtain rfl:=Df.1 hn;rw[e3,hem];simp
    ·rw[hb2]at e3;rw[hb2];refine⟨(fun h=>by cases h),fun m' h=>?_⟩;cases h;refine⟨i1,fun name=>?_,fun name=>?_⟩
     ·rw[i2];cases hn:sEq x.2.2.name name with
      |false=>rw[hoth name hn]
      |true=>
       obtain rfl:=Df.1 hn;unfold findIn at hf⊢;rw[hem]at hf;rw[e2 1 (by omega),hem,e3,Jj4];have hf2:Ef x.2.2.name (hitsIn ys D x.2.2.name 2)=some d:=hf.symm;rw[hf2]
     ·cases hn:sEq x.2.2.name name with
      |false=>rw[e1 name hn];exact i3 name
      |true=>
       obtain rfl:=Df.1 hn;rw[e2 1 (by omega)];exact i3 _
theorem Jk6{D:List (List Bool)}{name:ByteArray}{b:Int}(ys r:List Sy):(hitsIn ys D name b).length≤(hitsIn (ys++r) D name b).length:=by
 unfold hitsIn;rw[List.filter_append,List.length_append];omega
theorem Tr{D:List (List Bool)}{bindOf:Bb→Int}:∀(r ys:List Sy)(m:List Bb),Sd D bindOf ys m→(∀y∈ys++r,bindOf ⟨y.2.2.name,y.1,y.2.1⟩=y.2.2.bind)→(∀y∈r,Cw y.2.2 (Cz D y.1)=true→y.2.2.bind=1∨y.2.2.bind=2)→
 (Dw D bindOf r m=none→∃x∈r,Cw x.2.2 (Cz D x.1)=true∧1 < (hitsIn (ys++r) D x.2.2.name 1).length)∧∀m',Dw D bindOf r m=some m'→Sd D bindOf (ys++r) m'
 | [],ys,m,hi,_,_=>⟨(fun h=>by cases h),(fun m' h=>by cases h;rw[List.append_nil];exact hi)⟩
 |x::r,ys,m,hi,hb,hx=>by
  obtain⟨h1,h2⟩:=Jf5 hi (fun y hy=>hb y (by simp[hy])) (hx x (by simp));unfold Dw;cases hs:ownStep D bindOf x m with
  |none=>
   refine⟨fun _=>⟨x,by simp,?_,?_⟩,(fun m' h=>by cases h)⟩
   ·unfold ownStep at hs;cases hd:Cw x.2.2 (Cz D x.1)with
    |true=>rfl
    |false=>rw[hd]at hs;cases hs
   ·have h3:=h1 hs;have h4:=Jk6 (D:=D) (name:=x.2.2.name) (b:=1) (ys++ [x]) r;rw[List.append_assoc]at h4;exact Nat.lt_of_lt_of_le h3 h4
  |some m1=>
   have h3:=Tr r (ys++ [x]) m1 (h2 m1 hs) (fun y hy=>hb y (by simpa using hy)) (fun y hy=>hx y (by simp[hy]));rw[List.append_assoc]at h3;refine⟨fun h=>?_,h3.2⟩;obtain⟨y,hy,h⟩:=h3.1 h;exact⟨y,by simp[hy],h⟩
theorem Jax{xs:List Sy}{D:List (List Bool)}{bindOf:Bb→Int}(hb:∀y∈xs,bindOf ⟨y.2.2.name,y.1,y.2.1⟩=y.2.2.bind)(hx:∀y∈xs,Cw y.2.2 (Cz D y.1)=true→y.2.2.bind=1∨y.2.2.bind=2):
 (Dw D bindOf xs []=none∧Dl xs D xs ([],false)=none)∨∃m defs u,Dw D bindOf xs []=some m∧Dl xs D xs ([],false)=some (defs,u)∧Iw m∧Dz defs∧(∀d,d∈m ↔ d∈defs)∧
  (∀name,m.find? (fun e=>sEq e.name name)=findIn xs D name)∧(∀d,d∈defs ↔ findIn xs D d.name=some d)∧u=xs.any fun x=>x.2.2.bind==1&&(findIn xs D x.2.2.name).isNone:=by
 have ho:=Tr (D:=D) (bindOf:=bindOf) xs [] [] ⟨List.Pairwise.nil,fun name=>rfl,fun name=>Ak _⟩ hb hx;have hr:=Ja8 (xs:=xs) (D:=D) xs [] ([],false) ⟨List.Pairwise.nil,fun d=>by simp,rfl⟩;rw[List.nil_append]at ho hr;have hdn:∀x:Sy,Cw x.2.2 (Cz D x.1)=true→x.2.2.bind≠0:=fun x h h0=>by unfold Cw at h;rw[h0]at h;cases h
 cases h1:Dw D bindOf xs []with
 |none=>
  obtain⟨x,hxm,hd,hlt⟩:=ho.1 h1;refine .inl ⟨rfl,?_⟩;cases h2:Dl xs D xs ([],false)with
  |none=>rfl
  |some st=>exact absurd hlt ((hr.2 st h2).2 x hxm (hdn x hd))
 |some m=>
  obtain⟨i1,i2,i3⟩:=ho.2 m h1;refine .inr ?_;cases h2:Dl xs D xs ([],false)with
  |none=>
   obtain⟨x,_,hlt⟩:=hr.1 h2;have:=i3 x.2.2.name;omega
  |some st=>
   obtain⟨⟨j1,j2,j3⟩,_⟩:=hr.2 st h2;have hmem:∀d,d∈st.1 ↔ findIn xs D d.name=some d:=fun d=>by
    rw[j2 d];constructor
    ·rintro⟨x,_,_,h⟩;rw[Ru h];exact h
    ·intro h;have hh:∀b,Ef d.name (hitsIn xs D d.name b)=some d→∃x∈xs,x.2.2.bind≠0∧x.2.2.name=d.name:=fun b h=>by
      unfold Ef at h;cases hq:(hitsIn xs D d.name b).head? with
      |none=>rw[hq]at h;cases h
      |some x=>
       have hm:x∈hitsIn xs D d.name b:=List.mem_of_mem_head? hq;obtain⟨h1,h2⟩:=List.mem_filter.1 hm;unfold Ii at h2;simp only[Bool.and_eq_true,beq_iff_eq]at h2;exact⟨x,h1,hdn x h2.1,Df.1 h2.2.1⟩
     have:∃x∈xs,x.2.2.bind≠0∧x.2.2.name=d.name:=by
      unfold findIn at h;cases hq:Ef d.name (hitsIn xs D d.name 1)with
      |some d'=>rw[hq]at h;cases h;exact hh 1 hq
      |none=>rw[hq]at h;exact hh 2 h
     obtain⟨x,h3,h4,h5⟩:=this;exact⟨x,h3,h4,by rw[h5];exact h⟩
   refine⟨m,st.1,st.2,rfl,rfl,i1,j1,fun d=>?_,i2,hmem,j3⟩;rw[Pz i1,i2,hmem]
theorem Du{w:World}{p:Option Addr}{l:List Az}{i:Nat}{o:Az}(h:Bg 5 Cg w p l)(hi:l[i]?=some o):
 ∃(b off:Nat)(p0 p1 p2 p4:Option Addr)(c0 c1 c2 c4:Nat),p=some ⟨b,off,none⟩∧w.cell? ⟨b,off+i*5,none⟩=some (.slice p0 o.secs.length c0)∧w.cell? ⟨b,off+i*5+1,none⟩=some (.slice p1 o.syms.length c1)∧w.cell? ⟨b,off+i*5+2,none⟩=some (.slice p2 o.groups.length c2)∧
  w.cell? ⟨b,off+i*5+3,none⟩=some (.bool o.hasSig)∧w.cell? ⟨b,off+i*5+4,none⟩=some (.slice p4 o.sig.length c4)∧Bg 9 Ev w p0 o.secs∧Bg 6 Ie w p1 o.syms∧Bg 2 Ew w p2 o.groups∧Bg 1 Cc w p4 o.sig∧
  (o.secs.length≤c0∧c0≤maxLen)∧(o.syms.length≤c1∧c1≤maxLen)∧(o.groups.length≤c2∧c2≤maxLen)∧o.sig.length≤c4∧c4≤maxLen:=by
 obtain⟨b,off,rfl,v0,v1,v2,v4,e0,e1,e2,e3,e4,⟨p0,c0,rfl,a0,b0,_,h0⟩,⟨p1,c1,rfl,a1,b1,_,h1⟩,⟨p2,c2,rfl,a2,b2,_,h2⟩,⟨p4,c4,rfl,a4,b4,_,h4⟩⟩:=h i o hi;exact⟨b,off,p0,p1,p2,p4,c0,c1,c2,c4,rfl,e0,e1,e2,e3,e4,h0,h1,h2,h4,⟨a0,b0⟩,⟨a1,b1⟩,⟨a2,b2⟩,a4,b4⟩
theorem Ny{α:Type}{f:Az→List α}{l:List Az}{i k a b:Nat}{x:α}:(a,b,x)∈Bo f l i k ↔(a < i∨a=i∧b < k)∧∃o,l[a]?=some o∧(f o)[b]?=some x:=by
 unfold Bo;rw[List.mem_append,Gh];constructor
 ·rintro(⟨h1,h2⟩|h)
  ·exact⟨.inl h1,h2⟩
  ·cases ho:l[i]? with
   |none=>rw[ho]at h;cases h
   |some o=>
    rw[ho]at h;simp only at h;obtain⟨j,hj⟩:=List.mem_iff_getElem?.1 h;rw[List.getElem?_take]at hj;split at hj
    ·rename_i hjk;unfold Eh at hj;rw[List.getElem?_mapIdx]at hj;cases hq:(f o)[j]? with
     |none=>rw[hq]at hj;cases hj
     |some y=>
      rw[hq]at hj;cases hj;exact⟨.inr ⟨rfl,hjk⟩,o,ho,hq⟩
    ·cases hj
 ·rintro⟨h1|⟨rfl,h1⟩,o,h2,h3⟩
  ·exact .inl ⟨h1,o,h2,h3⟩
  ·refine .inr ?_;rw[h2];refine List.mem_iff_getElem?.2 ⟨b,?_⟩;rw[List.getElem?_take,if_pos h1];exact Pn h3
theorem Jnf{α:Type}{f:Az→List α}{l:List Az}{i k a b:Nat}{o:Az}{x:α}{q:Nat × Nat × α→Bool}(ho:l[a]?=some o)(hx:(f o)[b]?=some x)(hab:a < i∨a=i∧b < k)(hq:q (a,b,x)=true):(Bo f l i k).any q=true:=
 List.any_eq_true.2 ⟨(a,b,x),Ny.2 ⟨hab,o,ho,hx⟩,hq⟩
structure OkD(o:Az):Prop where
 gsym:∀g∈o.groups,1≤g.sym∧g.sym < (o.syms.length:Int)
 mem:Jht o
 one:Wm o
 sec:∀s∈o.syms,-1≤s.sec∧s.sec≤(o.secs.length:Int)
 bind:∀s∈o.syms,0≤s.bind∧s.bind≤2
 few:o.secs.length≤1000∧o.syms.length≤1000∧o.groups.length≤100000∧o.sig.length≤100000∧∀g∈o.groups,g.members.length≤100000
theorem OkD.sym{o:Az}(h:OkD o){g:Cs}(hg:g∈o.groups):∃(n:Nat)(s:Ct),g.sym=(n:Int)∧o.syms[n]?=some s∧Ff o g.sym=s.name:=by
 obtain⟨h1,h2⟩:=h.gsym g hg;obtain⟨n,hn⟩:=Au (show 0≤g.sym by omega);have hl:n < o.syms.length:=by omega
 refine⟨n,o.syms[n],hn,Ae hl,?_⟩;unfold Ff;rw[hn,Int.toNat_natCast,Ae hl]
def Ij(w:World)(b o:Nat)(x:Bool):Prop:=w.cell? ⟨b,o,none⟩=some (.bool x)
def Fg(w:World)(b o:Nat)(xs:List Bool):Prop:=∃v,w.cell? ⟨b,o,none⟩=some v∧IsL 1 Ij w v xs
def Dg(w:World)(b o:Nat)(d:Bb):Prop:=w.cell? ⟨b,o,none⟩=some (.string d.name)∧w.cell? ⟨b,o+1,none⟩=some (.int .i64 (d.obj:Int))∧w.cell? ⟨b,o+2,none⟩=some (.int .i64 (d.sym:Int))
theorem Ij.keeps:Hb Ij:=fun _ _ _ _ _ hb h=>Cf hb h
theorem Fg.keeps:Hb Fg:=fun _ _ _ _ _ hb ⟨v,c,h⟩=>⟨v,Cf hb c,h.below Ij.keeps hb⟩
theorem Dg.keeps:Hb Dg:=fun _ _ _ _ _ hb ⟨h0,h1,h2⟩=>⟨Cf hb h0,Cf hb h1,Cf hb h2⟩
def Vh(w:World)(v0 v1:Value)(D:List (List Bool))(defs:List Bb):Prop:=IsL 1 Fg w v0 D∧IsL 3 Dg w v1 defs
theorem Oa{w:World}{p:Option Addr}{D:List (List Bool)}{i:Nat}(h:Bg 1 Fg w p D)(hi:i < D.length):∃(b off:Nat)(q:Option Addr)(c:Nat),p=some ⟨b,off,none⟩∧w.cell? ⟨b,off+i,none⟩=some (.slice q (Cz D i).length c)∧Bg 1 Ij w q (Cz D i):=by
 obtain⟨b,off,x,rfl,hx,v,e,q,c,rfl,_,_,_,hh⟩:=h.at_ hi;rw[Nat.mul_one]at e;have:Cz D i=x:=by unfold Cz;rw[hx];rfl
 rw[this];exact⟨b,off,q,c,rfl,e,hh⟩
theorem Bd{w w':World}{base s:Nat}{e:TypeId}{v:Value}{n:Nat}{xs:List Value}(h:w.ownsRow base e s v n xs)(hb:Below w.heap.size w w'):w'.ownsRow base e s v n xs:=
 h.kept (row:=none) ⟨hb.os,hb.tape,hb.output,hb.size,fun k hk _=>hb.block k hk⟩ (by cases hv:v.ownBlock<;>simp)
theorem Bl{w:World}{base n s:Nat}{T:TypeId}{v:Value}{xs:List Value}(h:w.ownsRow base T s v n xs):∃p c,v= .slice p n c∧n≤c∧c≤maxLen∧(p=none→c=0):=by
 rcases h.2 with⟨rfl,rfl⟩|⟨g,cap,cur,rfl,_,_,hnc,hcm,_,_⟩
 ·exact⟨none,0,rfl,Af _,Ak _,fun _=>rfl⟩
 ·exact⟨_,_,rfl,hnc,hcm,fun h=>by cases h⟩
def tyOf:Obj→Option TypeId
 | .cells _ T _=>some T
 |_=>none
structure FrT(N:Nat)(Ts:List TypeId)(w w':World):Prop where
 os:w'.os=w.os
 tape:w'.tape=w.tape
 output:w'.output=w.output
 size:w.heap.size≤w'.heap.size
 block:∀k o,w.heap[k]?=some o→(k < N∨∀T∈Ts,tyOf o≠some T)→w'.heap[k]?=some o
theorem FrT.refl(N:Nat)(Ts:List TypeId)(w:World):FrT N Ts w w:=⟨rfl,rfl,rfl,Af _,fun _ _ h _=>h⟩
theorem FrT.trans{N:Nat}{Ts:List TypeId}{a b c:World}(h:FrT N Ts a b)(k:FrT N Ts b c):FrT N Ts a c:=
 ⟨k.os.trans h.os,k.tape.trans h.tape,k.output.trans h.output,Aw h.size k.size,fun i o hi ht=>k.block i o (h.block i o hi ht) ht⟩
theorem FrT.mono{N:Nat}{Ts Us:List TypeId}{a b:World}(h:FrT N Ts a b)(hs:∀T∈Ts,T∈Us):FrT N Us a b:=
 ⟨h.os,h.tape,h.output,h.size,fun i o hi ht=>h.block i o hi (ht.imp id fun hu T hT=>hu T (hs T hT))⟩
theorem FrT.of_below{N:Nat}{Ts:List TypeId}{w w':World}(h:Below w.heap.size w w'):FrT N Ts w w':=
 ⟨h.os,h.tape,h.output,h.size,fun k o hk _=>by rw[h.block k (Ac.1 hk).1];exact hk⟩
theorem FrT.below{N:Nat}{Ts:List TypeId}{w w':World}(h:FrT N Ts w w')(hN:N≤w.heap.size):Below N w w':=
 ⟨h.os,h.tape,h.output,h.size,fun k hk=>by
  have hx:w.heap[k]?=some w.heap[k]:=Array.getElem?_eq_getElem (by omega);rw[hx]
  exact h.block k _ hx (.inl hk)⟩
theorem FrT.heap{N:Nat}{Ts:List TypeId}{w w':World}{k:Nat}{cs:Array Value}{T:TypeId}{m:Nat × Nat}(h:FrT N Ts w w')(hk:w.heap[k]?=some (.cells cs T m))(hT:T∉Ts):w'.heap[k]?=some (.cells cs T m):=
 h.block k _ hk (.inr fun U hU e=>by
  simp only[tyOf,Option.some.injEq]at e
  exact hT (e▸hU))
theorem FrT.owns{N:Nat}{Ts:List TypeId}{w w':World}{B:Nat}{T:TypeId}{s n:Nat}{v:Value}{xs:List Value}(h:FrT N Ts w w')(ho:w.ownsRow B T s v n xs)(hT:T∉Ts):w'.ownsRow B T s v n xs:=by
 refine⟨ho.1,?_⟩;rcases ho.2 with h0|⟨g,cap,cur,hv,hb,hg,rest⟩
 ·exact .inl h0
 ·exact .inr ⟨g,cap,cur,hv,hb,h.heap hg hT,rest⟩
theorem FrT.grown{N:Nat}{Ts:List TypeId}{w w':World}{B:Nat}{T:TypeId}{s n:Nat}{v:Value}{xs:List Value}(ho:w.ownsRow B T s v n xs)(hg:w.grownBy w' v.ownBlock)(hT:T∈Ts)(hN:N≤B):FrT N Ts w w':=by
 refine⟨hg.os,hg.tape,hg.output,hg.size,fun k o hk ht=>?_⟩;rw[hg.block k (Ac.1 hk).1 fun e=>?_]
 ·exact hk
 ·rcases ho.2 with⟨rfl,_⟩|⟨g,cap,cur,rfl,hb,hg2,_⟩
  ·simp[Value.ownBlock]at e
  ·simp only[Value.ownBlock,Option.some.injEq]at e;subst e;rw[hk]at hg2;cases hg2;rcases ht with ht|ht
   ·omega
   ·exact ht T hT rfl
theorem FrT.set{N:Nat}{Ts:List TypeId}{w:World}{F i:Nat}{cs:Array Value}{T:TypeId}{m:Nat × Nat}(hF:w.heap[F]?=some (.cells cs T m))(hT:T∈Ts)(hN:N≤F)(v:Value):FrT N Ts w (w.setCell ⟨F,i,none⟩ v):=by
 refine⟨rfl,rfl,rfl,by simp,fun k o hk ht=>?_⟩;by_cases e:k=F
 ·subst e;rw[hk]at hF;cases hF;rcases ht with ht|ht
  ·omega
  ·exact absurd rfl (ht T hT)
 ·rw[heap_setCell_other w ⟨F,i,none⟩ k v e];exact hk
theorem FrT.grownNew{N:Nat}{Ts:List TypeId}{w w1 w2:World}{r:Option Nat}(h:FrT N Ts w w1)(hg:w1.grownBy w2 r)(hr:∀k,r=some k→w.heap.size≤k):FrT N Ts w w2:=
 ⟨hg.os.trans h.os,hg.tape.trans h.tape,hg.output.trans h.output,Aw h.size hg.size,fun k o hk ht=>by
  have h1:=h.block k o hk ht;rw[hg.block k (Ac.1 h1).1 fun e=>by have:=hr k e.symm;have:=(Ac.1 hk).1;omega]
  exact h1⟩
theorem Ga(w:World)(g:Nat)(v0 v1 v2 v3 v4:Value)(T:TypeId)(h:w.heap[g]?=some (.cells #[v0,v1,v2,v3,v4] T (0,0))):
 (w.cell? ⟨g,0,none⟩=some v0∧w.cell? ⟨g,1,none⟩=some v1∧w.cell? ⟨g,2,none⟩=some v2∧w.cell? ⟨g,3,none⟩=some v3∧w.cell? ⟨g,4,none⟩=some v4)∧
 (w.frozen? ⟨g,0,none⟩=false∧w.frozen? ⟨g,1,none⟩=false∧w.frozen? ⟨g,2,none⟩=false∧w.frozen? ⟨g,3,none⟩=false∧w.frozen? ⟨g,4,none⟩=false):=by
 refine⟨⟨?_,?_,?_,?_,?_⟩,?_,?_,?_,?_,?_⟩
 all_goals first|exact(Am w g _ _ _ (0,0) h).trans rfl|exact Ap w g _ _ _ h|fail
end Go.Proofs.YteopgmieindojaaGreat
namespace Go.Proofs.YteopgmieindojaaGreat
end Go.Proofs.YteopgmieindojaaGreat
namespace Go.Proofs.YteopgmieindojaaGreat
open Go.RowKit
theorem No{P:Program}{id:Nat}{Q:Exit→Act→World→Prop}{a:Act}{w:World}{l:List Oper}(hm:P.follows .mixedOrders=true)(hB:Region.lexB .any l.toArray=true)
 (h:wpQuiet P l.toArray (fun W=>Below w.heap.size w W) (fun a'=>∀w',Below w.heap.size w w'→Q .normal a' w') l a):(Code.region id l.toArray true).wp P Q a w:=
 wp_region_quiet (C:=fun W=>Below w.heap.size w W) hm hB ((Ag _ w).drew) (by simpa using h)
theorem Qb{α:Type}{k:Nat}{f:α→List Value}(hk:∀x,(f x).length=k):∀xs:List α,(xs.flatMap f).length=xs.length*k
 | []=>by simp
 |x::xs=>by rw[List.flatMap_cons,List.length_append,hk x,Qb hk xs,List.length_cons,Nat.succ_mul];omega
theorem Ks{α:Type}{k:Nat}{f:α→List Value}(hk:∀x,(f x).length=k):∀(xs:List α)(i:Nat)(x:α)(j:Nat)(u:Value),xs[i]?=some x→(f x)[j]?=some u→(xs.flatMap f)[i*k+j]?=some u
 | [],i,x,j,u,h,_=>by simp at h
 |y::xs,0,x,j,u,h,hj=>by
  simp at h;subst h;rw[List.flatMap_cons,Nat.zero_mul,Nat.zero_add,List.getElem?_append_left (Ab.1 hj).1];exact hj
 |y::xs,i+1,x,j,u,h,hj=>by
  have:=Ks hk xs i x j u (by simpa using h) hj;rw[List.flatMap_cons,List.getElem?_append_right (by rw[hk y,Nat.succ_mul];omega),hk y,show(i+1)*k+j - k=i*k+j by rw[Nat.succ_mul];omega];exact this
theorem Ox{α:Type}(f:α→List Value)(xs:List α)(x:α):(xs++ [x]).flatMap f=xs.flatMap f++f x:=by simp
theorem Mo{α β:Type}{k:Nat}{E:World→Nat→Nat→β→Prop}{f:α→List Value}{g:α→β}(hk:∀x,(f x).length=k){w:World}{B:Nat}{T:TypeId}{v:Value}{xs:List α}(h:w.ownsRow B T k v xs.length (xs.flatMap f))
 (hE:∀x∈xs,∀b o,(∀j u,(f x)[j]?=some u→w.cell? ⟨b,o+j,none⟩=some u)→E w b o (g x)):IsL k E w v (xs.map g):=by
 rcases h.2 with⟨rfl,h0⟩|⟨b,cap,cur,rfl,hb,hg,h1,h2,h3,h4⟩
 ·have:xs= []:=List.length_eq_zero_iff.1 h0;subst this;exact⟨none,0,rfl,Af _,Ak _,fun _=>rfl,fun i x hx=>by simp at hx⟩
 ·refine⟨some ⟨b,0,none⟩,cap,by rw[List.length_map],by rw[List.length_map];exact h1,h2,(fun h=>by cases h),fun i y hy=>⟨b,0,rfl,?_⟩⟩;rw[List.getElem?_map]at hy;cases hx:xs[i]? with
  |none=>rw[hx]at hy;cases hy
  |some x=>
   rw[hx]at hy;cases hy;have hi:=(Ab.1 hx).1;refine hE x (Ad hx) b (0+i*k) fun j u hj=>?_;have hjk:j < k:=by rw[←hk x];exact(Ab.1 hj).1
   have hlt:i*k+j < xs.length*k:=by
    have:(i+1)*k≤xs.length*k:=Nat.mul_le_mul_right k hi;rw[Nat.succ_mul]at this;omega
   have hf:=Ks hk xs i x j u hx hj;rw[Nat.zero_add];refine(Am w b (i*k+j) cur T (0,0) hg).trans ?_;rw[←h4,List.getElem?_take,if_pos hlt]at hf;simpa using hf
def Bn(x:Int):Prop:=-9223372036854775808≤x∧x≤9223372036854775807
theorem Jgx:∀l:List UInt8,l.flatMap (fun x=> [u8v x])=l.map u8v
 | []=>rfl
 |a::l=>by rw[List.flatMap_cons,Jgx l];rfl
theorem Jk8{w:World}{B:Nat}{T:TypeId}{v:Value}{l:List UInt8}(h:w.ownsRow B T 1 v l.length (l.map u8v)):IsL 1 Ds w v l:=by
 have:=Mo (k:=1) (f:=fun x:UInt8=> [u8v x]) (g:=id) (E:=Ds) (fun _=>rfl) (xs:=l) (by rw[show l.flatMap (fun x=> [u8v x])=l.map u8v from Jgx l];exact h) (fun x hx b o hc=>hc 0 _ rfl);simpa using this
def Ea.bd(r:Ea):Prop:=Bn r.off∧Bn r.type∧Bn r.sym∧Bn r.add
theorem Ky(w:World)(g:Nat)(v0 v1 v2 v3 v4 v5:Value)(T:TypeId)(h:w.heap[g]?=some (.cells #[v0,v1,v2,v3,v4,v5] T (0,0))):w.cell? ⟨g,0,none⟩=some v0∧w.cell? ⟨g,1,none⟩=some v1∧w.cell? ⟨g,2,none⟩=some v2∧w.cell? ⟨g,3,none⟩=some v3∧w.cell? ⟨g,4,none⟩=some v4∧w.cell? ⟨g,5,none⟩=some v5:=by
 refine⟨?_,?_,?_,?_,?_,?_⟩<;>exact(Am _ _ _ _ _ (0,0) h).trans rfl
abbrev Jhu (s:Ct):Value:= .agg #[.string s.name,.int .i64 s.bind,.int .i64 s.type,.int .i64 s.sec,.int .i64 s.value,.int .i64 s.size]
theorem Jdw(s:Ct)(q:Option Addr)(n c:Nat)(dr:List Bool)(w:World)(h:Bg 1 Ij w q dr)(hn:dr.length=n)(hs: -1≤s.sec∧s.sec≤(n:Int))(hnb:n≤100000):
 Calls Tryz.prog 110 #[Jhu s,.slice q n c] w fun e w'=>e= .returned (.bool (Cw s dr))∧Below w.heap.size w w':=by
 have hb1:Below w.heap.size w (w.alloc (.cells #[.string s.name,.int .i64 s.bind,.int .i64 s.type,.int .i64 s.sec,.int .i64 s.value,.int .i64 s.size] 98)):=(Ag _ w).alloc (Af _) _;obtain⟨x0,x1,x2,x3,x4,x5⟩:=Ky _ _ _ _ _ _ _ _ _ (Ah w (.cells #[.string s.name,.int .i64 s.bind,.int .i64 s.type,.int .i64 s.sec,.int .i64 s.value,.int .i64 s.size] 98));have hh:=h.below Ij.keeps hb1;obtain⟨res,hres⟩:∃res,res=Cw s dr:=⟨_,rfl⟩
 rw[←hres];have HRES:=Aa hres;have HH:=Aa hh;have HN:=Aa hn;clear h hres hh hn;go_enter Tryz.func110,Tryz.ntmps110;go_upto_region 1 with fail
 generalize w.alloc (.cells #[.string s.name,.int .i64 s.bind,.int .i64 s.type,.int .i64 s.sec,.int .i64 s.value,.int .i64 s.size] 98)=w1 at*;generalize hgb:w.heap.size=gb at*;have HGB:=Aa hgb;clear hgb;have hr:res=bif s.bind==0 || s.sec==0 then false else s.sec== -1 || !(dr[(s.sec - 1).toNat]?.getD false):=HRES.out
 have HR:=Aa hr;clear hr HRES;cases h0:(s.bind==0)with
 |true=>
  have hE:Hid (res=false):=Aa (by rw[HR.out,h0];rfl);go_wp2_with fail
  go_ret;rw[hE.out];exact⟨rfl,by rw[HGB.out];exact hb1⟩
 |false=>
  cases h1:(s.sec==0)with
  |true=>
   have hE:Hid (res=false):=Aa (by rw[HR.out,h0,h1];rfl);go_wp2_with fail
   go_ret;rw[hE.out];exact⟨rfl,by rw[HGB.out];exact hb1⟩
  |false=>
   cases h2:(s.sec== -1)with
   |true=>
    have hE:Hid (res=true):=Aa (by rw[HR.out,h0,h1,h2];rfl);go_wp2_with fail
    go_ret;rw[hE.out];exact⟨rfl,by rw[HGB.out];exact hb1⟩
   |false=>
    have h1':¬s.sec=0:=by simpa using h1
    have h2':¬s.sec= -1:=by simpa using h2
    obtain⟨m,hm⟩:∃m:Nat,s.sec=((m+1:Nat):Int):=⟨(s.sec - 1).toNat,by omega⟩
    have hmn:m < dr.length:=by rw[HN.out];omega
    obtain⟨b,off,d,rfl,hd,hc⟩:=HH.out.at_ hmn;have hc:w1.cell? ⟨b,off+m*1,none⟩=some (.bool d):=hc;rw[Nat.mul_one]at hc;have hE:Hid (res= !d):=Aa (by rw[HR.out,h0,h1,h2,hm,show(((m+1:Nat):Int) - 1).toNat=m by omega,hd];rfl);have k1:IntKind.i64.wrap (s.sec - 1)=(m:Int):=by rw[show s.sec - 1=(m:Int) by omega];exact Al _ (by omega)
    have hJ:(m:Int) < (n:Int):=by omega
    have hJ0:(0:Int)≤(m:Int):=by omega
    clear hm hd h1' h2' hmn;go_wp2_with fail
    go_ret;rw[hE.out];exact⟨rfl,by rw[HGB.out];exact hb1⟩
abbrev Dh (d:Bb):Array Value:=#[.string d.name,.int .i64 (d.obj:Int),.int .i64 (d.sym:Int)]
def noDef:Bb:=⟨⟨#[]⟩,0,0⟩
def hitD(name:ByteArray)(hs:List Sy):Bb:=(Ef name hs).getD noDef
theorem Jbj{name:ByteArray}{hs:List Sy}{x:Sy}:hitD name (hs++ [x])=bif hs.length==0 then⟨name,x.1,x.2.1⟩else hitD name hs:=by
 cases hs<;>rfl
theorem Bj(w:World)(g:Nat)(v0 v1 v2:Value)(T:TypeId)(h:w.heap[g]?=some (.cells #[v0,v1,v2] T (0,0))):(w.cell? ⟨g,0,none⟩=some v0∧w.cell? ⟨g,1,none⟩=some v1∧w.cell? ⟨g,2,none⟩=some v2)∧(w.frozen? ⟨g,0,none⟩=false∧w.frozen? ⟨g,1,none⟩=false∧w.frozen? ⟨g,2,none⟩=false):=by
 refine⟨⟨?_,?_,?_⟩,?_,?_,?_⟩
 all_goals first|exact(Am w g _ _ _ (0,0) h).trans rfl|exact Ap w g _ _ _ h|fail
theorem Bz(w:World)(g:Nat)(v0 v1:Value)(T:TypeId)(h:w.heap[g]?=some (.cells #[v0,v1] T (0,0))):(w.cell? ⟨g,0,none⟩=some v0∧w.cell? ⟨g,1,none⟩=some v1)∧(w.frozen? ⟨g,0,none⟩=false∧w.frozen? ⟨g,1,none⟩=false):=by
 refine⟨⟨?_,?_⟩,?_,?_⟩
 all_goals first|exact(Am w g _ _ _ (0,0) h).trans rfl|exact Ap w g _ _ _ h|fail
theorem Cy{w:World}{g N:Nat}{v0 v1 v2:Value}{T:TypeId}(u0 u1 u2:Value)(hN:N≤g)(h:w.heap[g]?=some (.cells #[v0,v1,v2] T (0,0))):
 (((w.setCell ⟨g,0,none⟩ u0).setCell ⟨g,1,none⟩ u1).setCell ⟨g,2,none⟩ u2).heap[g]?=some (.cells #[u0,u1,u2] T (0,0))∧FrT N [T] w (((w.setCell ⟨g,0,none⟩ u0).setCell ⟨g,1,none⟩ u1).setCell ⟨g,2,none⟩ u2):=by
 have h0:=An w g 0 _ _ u0 h;have h1:=An _ g 1 _ _ u1 h0;have h2:=An _ g 2 _ _ u2 h1;exact⟨h2,((FrT.set h (by simp) hN _).trans (FrT.set h0 (by simp) hN _)).trans (FrT.set h1 (by simp) hN _)⟩
theorem Qf{fn:Func}{p u:Tmp}(h:fn.results= #[.cell p 63,.tmp u])(tmps:Array Value)(w:World)(g:Nat)(v0 v1 v2 b:Value)(hp:tmps.getD p undef= .pointer (some ⟨g,0,none⟩))(hu:tmps.getD u undef=b)
 (hg:w.heap[g]?=some (.cells #[v0,v1,v2] 63 (0,0))):(results fn tmps).run Tryz.prog w= .ok (.tuple #[.agg #[v0,v1,v2],b]) w:=by
 obtain⟨⟨r0,r1,r2⟩,_⟩:=Bj _ _ _ _ _ _ hg;rw[results_cell_tmp h,hp,hu];go_simp
def Ss(d:Bb)(n:Nat)(w:World)(e:Ending)(w':World):Prop:=e= .returned (.tuple #[.agg (Dh d),.int .i64 (n:Int)])∧Below w.heap.size w w'
structure Er(w:World)(pd:Option Addr)(l:List Az)(D:List (List Bool)):Prop where
 has:Bg 1 Fg w pd D
 len:D.length=l.length
 row:∀i o,l[i]?=some o→(Cz D i).length=o.secs.length
theorem Er.below{w w':World}{pd:Option Addr}{l:List Az}{D:List (List Bool)}(h:Er w pd l D)(hb:Below w.heap.size w w'):Er w' pd l D:=⟨h.has.below Fg.keeps hb,h.len,h.row⟩
theorem Ys(p pd:Option Addr)(c cd:Nat)(vf:Value)(l:List Az)(D:List (List Bool))(name:ByteArray)(bind:Int)(w:World)(h:Bg 5 Cg w p l)(hok:∀o∈l,OkD o)(hlc:l.length≤1000)(hD:Er w pd l D):
 Calls Tryz.prog 57 #[.slice p l.length c,.agg #[.slice pd D.length cd,vf],.string name,.int .i64 bind] w (Ss (hitD name (hitsIn (Bc Az.syms l l.length) D name bind)) (hitsIn (Bc Az.syms l l.length) D name bind).length w):=by
 obtain⟨wa,hwa⟩:∃wa,wa=w.alloc (.cells #[.slice pd D.length cd,vf] 54):=⟨_,rfl⟩
 obtain⟨wb,hwb⟩:∃wb,wb=wa.alloc (.cells #[.string ⟨#[]⟩,.int .i64 0,.int .i64 0] 63):=⟨_,rfl⟩
 obtain⟨w3,hw3⟩:∃w3,w3=wb.alloc (.cells #[.string ⟨#[]⟩,.int .i64 0,.int .i64 0] 63):=⟨_,rfl⟩
 have ha:Below w.heap.size w wa:=by rw[hwa];exact(Ag _ w).alloc (Af _) _
 have hb:Below wa.heap.size wa wb:=by rw[hwb];exact(Ag _ wa).alloc (Af _) _
 have h3:Below wb.heap.size wb w3:=by rw[hw3];exact(Ag _ wb).alloc (Af _) _
 have sa:w.heap.size < wa.heap.size:=by rw[hwa];simp
 have sb:wa.heap.size < wb.heap.size:=by rw[hwb];simp
 have s3:wb.heap.size < w3.heap.size:=by rw[hw3];simp
 have hA0:wa.heap[w.heap.size]?=some (.cells #[.slice pd D.length cd,vf] 54 (0,0)):=by rw[hwa];exact Ah w _
 have hB0:wb.heap[wa.heap.size]?=some (.cells #[.string ⟨#[]⟩,.int .i64 0,.int .i64 0] 63 (0,0)):=by rw[hwb];exact Ah wa _
 have hG3:w3.heap[wb.heap.size]?=some (.cells #[.string ⟨#[]⟩,.int .i64 0,.int .i64 0] 63 (0,0)):=by rw[hw3];exact Ah wb _
 have hA3:=(h3.block _ (by omega)).trans ((hb.block _ sa).trans hA0);have hB3:=(h3.block _ sb).trans hB0;have hw03:Below w.heap.size w w3:=ha.trans ((hb.trans (h3.mono hb.size)).mono ha.size);obtain⟨xs,hxs⟩:∃xs,xs=hitsIn (Bc Az.syms l l.length) D name bind:=⟨_,rfl⟩
 rw[←hxs];have HXS:=Aa hxs;have hsa1:wa.heap.size=w.heap.size+1:=by rw[hwa];simp
 rw[hsa1]at hB3 sb;have HH:=Aa fun W (hW:Below w.heap.size w W)=>h.below Cg.keeps hW;have HDD:=Aa fun W (hW:Below w.heap.size w W)=>hD.below hW;have HOK:=Aa hok;have HWA:=Aa hwa;have HWB:=Aa hwb;have HW3:=Aa hw3;have HA3:=Aa hA3;have HB3:=Aa hB3;have HG3:=Aa hG3;have HW03:=Aa hw03;have HSB:=Aa sb;have HS3:=Aa s3;have HDL:=Aa hD.len;generalize hdn:D.length=dn at*;have HDN:=Aa hdn;generalize hln:l.length=ln at*;have HLN:=Aa hln;clear h hok hD hwa hwb hw3 ha hb h3 sa sb s3 hA0 hB0 hG3 hA3 hB3 hw03 hxs hdn hln hsa1;go_enter Tryz.func57,Tryz.ntmps57;go_upto_region 1 with fail
 rw[←HWA.out,←HWB.out];generalize hgb:w.heap.size=gb at*;have HGB:=Aa hgb;clear hgb HWA HWB;go_upto_region 2 with fail
 rw[←HW3.out];clear HW3;generalize wb.heap.size=G at*;have hBG:gb+1 < G:=HSB.out;have hG3s:G < w3.heap.size:=HS3.out;go_wp2_with fail
 go_loopw [11,12,13,14,15] (fun r11 r12 _ _ _ wr=>∃(i:Nat)(hs:List Sy),i≤ln∧r12= .int .i64 (i:Int)∧hs=hitsIn (Bc Az.syms l i) D name bind∧r11= .int .i64 (hs.length:Int)∧hs.length≤1000*i∧wr.heap[G]?=some (.cells (Dh (hitD name hs)) 63 (0,0))∧Below G w3 wr) (fun _ r12 _ _ _ _=>ln - (intOf r12).toNat)
 case atStart=>exact⟨0, [],Ak _,rfl,rfl,rfl,Ak _,HG3.out,(Ag _ w3).mono (Ar hG3s)⟩
 case round=>
  obtain⟨i,hs,hi,rfl,hhs,rfl,hsl,hg,hbr⟩:=hrel;have HHS:=Aa hhs;have HG:=Aa hg;clear hhs hg;have hbw:Below gb w wr:=HW03.out.trans (hbr.mono (by omega));by_cases hlt:i < ln
  ·obtain⟨o,ho⟩:∃o,l[i]?=some o:=⟨_,Ae (by rw[HLN.out];exact hlt)⟩
   have hI:(i:Int) < (ln:Int):=by omega
   have hI0:(0:Int)≤(i:Int):=by omega
   have hIL:¬(ln:Int)≤(i:Int):=by omega
   have hoo:=HOK.out o (Ad ho);have hyl:=hoo.few.2.1;have HO:=Aa ho;have HOO:=Aa hoo;obtain⟨yn,hyn⟩:∃yn,yn=o.syms.length:=⟨_,rfl⟩
   rw[←hyn]at hyl;have HYN:=Aa hyn;have hh0:hs=hitsIn (Bo Az.syms l i 0) D name bind:=by rw[Eb];exact HHS.out
   have HH0:=Aa hh0;clear ho hoo hyn hh0;go_wp2_with fail
   go_loopw [11,13,14,15] (fun r11 r13 _ _ wr=>∃(k:Nat)(hs:List Sy),k≤yn∧r13= .int .i64 (k:Int)∧hs=hitsIn (Bo Az.syms l i k) D name bind∧r11= .int .i64 (hs.length:Int)∧hs.length≤1000*i+k∧wr.heap[G]?=some (.cells (Dh (hitD name hs)) 63 (0,0))∧Below G w3 wr) (fun _ r13 _ _ _=>yn - (intOf r13).toNat)
   case atStart=>exact⟨0,hs,Ak _,rfl,HH0.out,rfl,by omega,HG.out,hbr⟩
   case round=>
    obtain⟨k,hs,hk,rfl,hhs,rfl,hsl,hg,hbr⟩:=hrel;have HHS2:=Aa hhs;have HG2:=Aa hg;clear hhs hg hbw;have hbw:Below gb w wr:=HW03.out.trans (hbr.mono (by omega));obtain⟨b,off,p0,p1,p2,p4,c0,c1,c2,c4,hpe,e0,e1,e2,_,_,_,hsy,_,_,_⟩:=Du (HH.out wr (by first|exact hbw|(rw[HGB.out];exact hbw))) HO.out;cases hpe;rw[←HYN.out]at e1;by_cases hlt2:k < yn
    ·obtain⟨b1,off1,s,hpe1,hs1,⟨f0,_⟩,⟨f1,_⟩,⟨f2,_⟩,⟨f3,_⟩,⟨f4,_⟩,⟨f5,_⟩⟩:=hsy.at_ (i:=k) (by rw[←HYN.out];exact hlt2);subst hpe1;have hK:(k:Int) < (yn:Int):=by omega
     have hK0:(0:Int)≤(k:Int):=by omega
     have hba:Below wr.heap.size wr (wr.alloc (.cells #[.string s.name,.int .i64 s.bind,.int .i64 s.type,.int .i64 s.sec,.int .i64 s.value,.int .i64 s.size] 98)):=(Ag _ wr).alloc (Af _) _;have hsn:=Ah wr (.cells #[.string s.name,.int .i64 s.bind,.int .i64 s.type,.int .i64 s.sec,.int .i64 s.value,.int .i64 s.size] 98);have HS1:=Aa hs1;clear hsy hs1 e0 e2;go_upto_region 10 with fail
     have hbws:Below gb w (wr.alloc (.cells #[.string s.name,.int .i64 s.bind,.int .i64 s.type,.int .i64 s.sec,.int .i64 s.value,.int .i64 s.size] 98)):=hbw.trans (hba.mono (by rw[←HGB.out];exact hbw.size));have hbrs:=hbr.trans (hba.mono (by have:=(Ac.1 HG2.out).1;omega));have hgs:=(hba.block G (Ac.1 HG2.out).1).trans HG2.out;generalize wr.alloc (.cells #[.string s.name,.int .i64 s.bind,.int .i64 s.type,.int .i64 s.sec,.int .i64 s.value,.int .i64 s.size] 98)=ws at*;generalize wr.heap.size=gs at*;obtain⟨x0,x1,x2,x3,x4,x5⟩:=Ky _ _ _ _ _ _ _ _ _ hsn;have hA:=(hbrs.block gb (by omega)).trans HA3.out;obtain⟨⟨a0,a1⟩,_⟩:=Bz _ _ _ _ _ hA;have hdd:=HDD.out ws (by first|exact hbws|(rw[HGB.out];exact hbws));have hid:i < D.length:=by rw[HDN.out,HDL.out];exact hlt
     obtain⟨bd,od,qd,cq,hpd,hdc,hdh⟩:=Oa hdd.has hid;subst hpd;have hsm:=HOO.out.sec s (Ad HS1.out);have hrow:=hdd.row i o HO.out;rw[←hrow]at hsm;have hsl0:=HOO.out.few.1;rw[←hrow]at hsl0;have hid2:(i:Int) < (dn:Int):=by have:=HDL.out;omega
     have HDF:=Aa fun W (hW:Below ws.heap.size ws W)=>Jdw s qd (Cz D i).length cq (Cz D i) W (hdh.below Ij.keeps hW) rfl hsm (by omega);have hst:hitsIn (Bo Az.syms l i (k+1)) D name bind=hs++bif Ii D name bind (i,k,s)then [(i,k,s)]else []:=by
      rw[Fp HO.out HS1.out,Ot,HHS2.out]
     have hhit:Ii D name bind (i,k,s)=(Cw s (Cz D i)&&(sEq s.name name&&s.bind==bind)):=rfl;obtain⟨df,hdf⟩:∃df,df=Cw s (Cz D i):=⟨_,rfl⟩
     rw[←hdf]at HDF hhit;obtain⟨hit,hhe⟩:∃hit,hit=Ii D name bind (i,k,s):=⟨_,rfl⟩
     rw[←hhe]at hst hhit;have HST:=Aa hst;have HHIT:=Aa hhit;have HGS:=Aa hgs;have HBRS:=Aa hbrs;have HBWS:=Aa hbws;generalize (Cz D i).length=rn at*;clear hsn hA hdd hid hdh hsm hrow hsl0 hst hhit hdf hhe hba e1 f0 f1 f2 f3 f4 f5 hgs hbrs hbws;refine No (by kernel_rfl) (by kernel_rfl) ?_
     repeat (go_big_quiet_step (first
      |(intro hWq;go_at_call 110;refine(HDF.out _ hWq).mono ?_;rintro e w' ⟨rfl,hb⟩;exact⟨rfl,hWq.trans (hb.mono hWq.size)⟩)
      |(intro hWq;have y0:=Ax hWq x0;have y1:=Ax hWq x1;have y2:=Ax hWq x2;have y3:=Ax hWq x3;have y4:=Ax hWq x4;have y5:=Ax hWq x5;have y6:=Ax hWq a0;have y7:=Ax hWq hdc;go_simp;first|done|rfl|exact⟨rfl,rfl⟩|fail)
      |fail))
     refine wpQuiet_nil ?_;intro w9 hw9;have hg9:=(hw9.block G (by have:=(Ac.1 HGS.out).1;exact this)).trans HGS.out;have hb9:=HBRS.out.trans (hw9.mono (by have:=(Ac.1 HGS.out).1;omega));have HG9:=Aa hg9;have HB9:=Aa hb9;have z0:=Ax hw9 x0;have z1:=Ax hw9 x1;obtain⟨q1,hq1⟩:∃q1,q1=sEq s.name name:=⟨_,rfl⟩
     obtain⟨q2,hq2⟩:∃q2,q2=(s.bind==bind):=⟨_,rfl⟩
     have hh2:=HHIT.out;rw[←hq1,←hq2]at hh2;have HH2:=Aa hh2;have hq3:(s.name.toList==name.toList)=q1:=hq1.symm;have hq4:(s.bind==bind)=q2:=hq2.symm;have hq5:(s.bind != bind)= !q2:=by unfold bne;rw[hq4]
     clear hw9 hg9 hb9 hh2 hq1 hq2 x0 x1 x2 x3 x4 x5 a0 a1 hdc hbr hbw HHIT;go_upto_region 11 with fail
     go_cut [61] (fun s61 wx=>s61= .bool (!hit)∧w9=wx)
     case first=>
      cases df with
      |false=>
       obtain rfl:hit=false:=by rw[HH2.out];rfl
       go_wp2_with fail
       go_meet;exact⟨rfl,rfl⟩
      |true=>
       cases q1 with
       |false=>
        obtain rfl:hit=false:=by rw[HH2.out];rfl
        go_wp2_with fail
        go_meet;exact⟨rfl,rfl⟩
       |true=>
        obtain rfl:hit=q2:=by rw[HH2.out];rfl
        go_wp2_with fail
        go_meet;exact⟨rfl,rfl⟩
     case rest=>
      obtain⟨rfl,rfl⟩:=hcut;clear hq3 hq4 hq5 z0 z1;cases hit with
      |false=>
       have hst2:Hid (hs=hitsIn (Bo Az.syms l i (k+1)) D name bind):=Aa (by rw[HST.out];simp);go_wp2_with fail
       go_roundw
       case rel=>exact⟨k+1,hs,hlt2,by go_num,hst2.out,rfl,by omega,HG9.out,HB9.out⟩
       case measure=>simp[intOf];omega
      |true=>
       have hst2:Hid (hs++ [(i,k,s)]=hitsIn (Bo Az.syms l i (k+1)) D name bind):=Aa (by rw[HST.out];rfl);have hll:Hid ((hs++ [(i,k,s)]).length=hs.length+1):=Aa (by simp);have hyl2:yn≤1000:=hyl;have k1:IntKind.i64.wrap ((hs.length:Int)+1)=((hs.length+1:Nat):Int):=by rw[show(hs.length:Int)+1=((hs.length+1:Nat):Int) by omega];exact Al _ (by omega)
       cases hz:hs.length==0 with
       |true=>
        have hz0:hs.length=0:=by simpa using hz
        have hz1:((hs.length:Int)==0)=true:=beq_iff_eq.2 (by omega);have hd2:Hid (hitD name (hs++ [(i,k,s)])=⟨name,i,k⟩):=Aa (by rw[Jbj,hz];rfl);obtain⟨⟨g0,g1,g2⟩,y0,y1,y2⟩:=Bj _ _ _ _ _ _ HG9.out;have hst3:=Cy (.string name) (.int .i64 (i:Int)) (.int .i64 (k:Int)) (Af G) HG9.out;have HST3:=Aa hst3;have hsz:G≤w9.heap.size:=Ar (Ac.1 HG9.out).1;clear hst3 hz hz0;go_wp2_with fail
        go_roundw
        case rel=>exact⟨k+1,hs++ [(i,k,s)],hlt2,by go_num,hst2.out,by rw[hll.out];first|rfl|go_num,by rw[hll.out];omega,by rw[hd2.out];exact HST3.out.1,HB9.out.trans (HST3.out.2.below hsz)⟩
        case measure=>simp[intOf];omega
       |false=>
        have hz0:¬hs.length=0:=by simpa using hz
        have hz1:((hs.length:Int)==0)=false:=beq_eq_false_iff_ne.2 (by omega);have hd2:Hid (hitD name (hs++ [(i,k,s)])=hitD name hs):=Aa (by rw[Jbj,hz];rfl);clear hz hz0;go_wp2_with fail
        go_roundw
        case rel=>exact⟨k+1,hs++ [(i,k,s)],hlt2,by go_num,hst2.out,by rw[hll.out];first|rfl|go_num,by rw[hll.out];omega,by rw[hd2.out];exact HG9.out,HB9.out⟩
        case measure=>simp[intOf];omega
    ·have hK:¬(k:Int) < (yn:Int):=by omega
     have hh2:Hid (hs=hitsIn (Bc Az.syms l (i+1)) D name bind):=Aa (by rw[HHS2.out,Ia HO.out (by rw[←HYN.out];omega)]);clear hsy e0 e2;go_wp2_with fail
     go_roundw
     case rel=>exact⟨i+1,hs,hlt,by go_num,hh2.out,rfl,by omega,HG2.out,hbr⟩
     case measure=>simp[intOf];omega
  ·obtain rfl:i=ln:=by omega
   have hI:¬(i:Int) < (i:Int):=by omega
   have hE:Hid (xs=hs):=Aa (by rw[HXS.out,HHS.out]);have hB3:=(hbr.block (gb+1) (by omega)).trans HB3.out;obtain⟨⟨g0,g1,g2⟩,_⟩:=Bj _ _ _ _ _ _ HG.out;obtain⟨⟨x0,x1,x2⟩,y0,y1,y2⟩:=Bj _ _ _ _ _ _ hB3;have hst:=Cy (.string (hitD name hs).name) (.int .i64 ((hitD name hs).obj:Int)) (.int .i64 ((hitD name hs).sym:Int)) (by omega:gb≤gb+1) hB3;have HST:=Aa hst;have hsz:gb≤wr.heap.size:=by rw[←HGB.out];exact hbw.size
   clear hst;go_wp2_with fail
   exact bodyPost_ret (Qf rfl _ _ _ _ _ _ _ (by rfl) (by rfl) HST.out.1) rfl ⟨by rw[hE.out];rfl,by first|exact hbw.trans (HST.out.2.below hsz)|(rw[HGB.out];exact hbw.trans (HST.out.2.below hsz))⟩
def Kj(xs:List Sy)(D:List (List Bool))(name:ByteArray):Bb:=(findIn xs D name).getD noDef
theorem Jn3{xs:List Sy}{D:List (List Bool)}{name:ByteArray}(h:0 < (hitsIn xs D name 1).length):Kj xs D name=hitD name (hitsIn xs D name 1)∧(findIn xs D name).isSome=true:=by
 unfold Kj findIn hitD;cases hq:Ef name (hitsIn xs D name 1)with
 |none=>rw[Kg.1 hq]at h;simp at h
 |some d=>exact⟨rfl,rfl⟩
theorem Jni{xs:List Sy}{D:List (List Bool)}{name:ByteArray}(h:(hitsIn xs D name 1).length=0):Kj xs D name=hitD name (hitsIn xs D name 2)∧(findIn xs D name).isSome=decide (0 < (hitsIn xs D name 2).length):=by
 have h1:hitsIn xs D name 1= []:=List.length_eq_zero_iff.1 h;unfold Kj findIn hitD;rw[Kg.2 h1];refine⟨rfl,?_⟩;cases hitsIn xs D name 2<;>rfl
theorem Zs{l:List Az}{D:List (List Bool)}{name:ByteArray}{b:Int}(hok:∀o∈l,OkD o):∀n,(hitsIn (Bc Az.syms l n) D name b).length≤1000*n
 |0=>Af _
 |n+1=>by
  have ih:=Zs (D:=D) (name:=name) (b:=b) hok n;have e:Bc Az.syms l (n+1)=Bc Az.syms l n++match l[n]? with|some o=>Eh Az.syms n o|none=> []:=rfl
  rw[e];unfold hitsIn at ih⊢;rw[List.filter_append,List.length_append];cases ho:l[n]? with
  |none=>simp;omega
  |some o=>
   have h1:=List.length_filter_le (Ii D name b) (Eh Az.syms n o);rw[He]at h1;have h2:=(hok o (Ad ho)).few.2.1;simp only;omega
theorem Jaj(p pd:Option Addr)(c cd:Nat)(vf:Value)(l:List Az)(D:List (List Bool))(name:ByteArray)(w:World)(h:Bg 5 Cg w p l)(hok:∀o∈l,OkD o)(hlc:l.length≤1000)(hD:Er w pd l D):
 Calls Tryz.prog 24 #[.slice p l.length c,.agg #[.slice pd D.length cd,vf],.string name] w fun e w'=>e= .returned (.tuple #[.agg (Dh (Kj (Bc Az.syms l l.length) D name)),.bool (findIn (Bc Az.syms l l.length) D name).isSome])∧Below w.heap.size w w':=by
 have HF:=Aa fun W (hW:Below w.heap.size w W)(b:Int)=>Ys p pd c cd vf l D name b W (h.below Cg.keeps hW) hok hlc (hD.below hW);have hA0:=Ah w (.cells #[.slice pd D.length cd,vf] 54);obtain⟨wa,hwa⟩:∃wa,wa=w.alloc (.cells #[.slice pd D.length cd,vf] 54):=⟨_,rfl⟩
 obtain⟨wb,hwb⟩:∃wb,wb=wa.alloc (.cells #[.string ⟨#[]⟩,.int .i64 0,.int .i64 0] 63):=⟨_,rfl⟩
 have ha:Below w.heap.size w wa:=by rw[hwa];exact(Ag _ w).alloc (Af _) _
 have hb:Below wa.heap.size wa wb:=by rw[hwb];exact(Ag _ wa).alloc (Af _) _
 have sa:wa.heap.size=w.heap.size+1:=by rw[hwa];simp
 have sb:wb.heap.size=w.heap.size+2:=by rw[hwb];simp[sa]
 rw[←hwa]at hA0;have hAb:=(hb.block _ (by omega)).trans hA0;have hRb:wb.heap[wa.heap.size]?=some (.cells #[.string ⟨#[]⟩,.int .i64 0,.int .i64 0] 63 (0,0)):=by rw[hwb];exact Ah wa _
 rw[sa]at hRb;have hwb0:Below w.heap.size w wb:=ha.trans (hb.mono ha.size);have hn1:=Zs (D:=D) (name:=name) (b:=1) hok l.length;have hn2:=Zs (D:=D) (name:=name) (b:=2) hok l.length;obtain⟨f,hf⟩:∃f,f=Kj (Bc Az.syms l l.length) D name:=⟨_,rfl⟩
 obtain⟨fs,hfs⟩:∃fs,fs=(findIn (Bc Az.syms l l.length) D name).isSome:=⟨_,rfl⟩
 have h1:0 < (hitsIn (Bc Az.syms l l.length) D name 1).length→f=hitD name (hitsIn (Bc Az.syms l l.length) D name 1)∧fs=true:=fun hh=>by rw[hf,hfs];exact Jn3 hh
 have h2:(hitsIn (Bc Az.syms l l.length) D name 1).length=0→f=hitD name (hitsIn (Bc Az.syms l l.length) D name 2)∧fs=decide (0 < (hitsIn (Bc Az.syms l l.length) D name 2).length):=fun hh=>by rw[hf,hfs];exact Jni hh
 rw[←hf,←hfs];have HF1:=Aa fun W hW=>HF.out W hW 1;have HF2:=Aa fun W hW=>HF.out W hW 2;unfold Ss at HF1 HF2;generalize hitD name (hitsIn (Bc Az.syms l l.length) D name 1)=d1 at*;generalize hitD name (hitsIn (Bc Az.syms l l.length) D name 2)=d2 at*;generalize (hitsIn (Bc Az.syms l l.length) D name 1).length=m1 at*;generalize (hitsIn (Bc Az.syms l l.length) D name 2).length=m2 at*;have HWA:=Aa hwa;have HWB:=Aa hwb;have H1:=Aa h1;have H2:=Aa h2;have HAB:=Aa hAb;have HRB:=Aa hRb;have HWB0:=Aa hwb0;have HSB:=Aa sb;clear h hok hD HF hA0 hwa hwb ha hb sa sb hAb hRb hwb0 hf hfs h1 h2;generalize D.length=dn at*;generalize l.length=ln at*;go_enter Tryz.func24,Tryz.ntmps24;go_upto_region 1 with fail
 rw[←HWA.out,←HWB.out];clear HWA HWB;generalize hgb:w.heap.size=gb at*;have HGB:=Aa hgb;clear hgb;obtain⟨⟨a0,a1⟩,_⟩:=Bz _ _ _ _ _ HAB.out;go_upto_region 2 with(first|(go_at_call 57;refine(HF1.out _ (by first|exact HWB0.out|(rw[HGB.out];exact HWB0.out))).mono ?_;rintro e w2 ⟨rfl,hb2⟩)|fail)
 have hb3:Below wb.heap.size wb (w2.alloc (.cells #[.string d1.name,.int .i64 (d1.obj:Int),.int .i64 (d1.sym:Int)] 63)):=hb2.alloc hb2.size _;have hg3:=Ah w2 (.cells #[.string d1.name,.int .i64 (d1.obj:Int),.int .i64 (d1.sym:Int)] 63);have hgs2:gb+2≤w2.heap.size:=by have:=hb2.size;have:=HSB.out;omega
 generalize w2.alloc (.cells #[.string d1.name,.int .i64 (d1.obj:Int),.int .i64 (d1.sym:Int)] 63)=w3 at*;generalize w2.heap.size=G at*;have hA3:=(hb3.block gb (by have:=HSB.out;omega)).trans HAB.out;have hR3:=(hb3.block (gb+1) (by have:=HSB.out;omega)).trans HRB.out;have hw3:Below gb w w3:=HWB0.out.trans (hb3.mono (by have:=HSB.out;omega));have hs3:gb+2≤w3.heap.size:=by have:=(Ac.1 hg3).1;omega
 have HA3:=Aa hA3;have HR3:=Aa hR3;have HG3:=Aa hg3;have HW3:=Aa hw3;clear a0 a1 hb2 hb3 hA3 hw3;obtain⟨⟨g0,g1,g2⟩,g3,g4,g5⟩:=Bj _ _ _ _ _ _ hg3;obtain⟨⟨r0,r1,r2⟩,r3,r4,r5⟩:=Bj _ _ _ _ _ _ hR3;clear hR3 hg3;by_cases hm:0 < m1
 ·have hm1:(0:Int) < (m1:Int):=by omega
  obtain⟨e1,e2⟩:=H1.out hm;have hE:Hid (f=d1∧fs=true):=Aa ⟨e1,e2⟩;have hst:=Cy (.string d1.name) (.int .i64 (d1.obj:Int)) (.int .i64 (d1.sym:Int)) (by omega:gb≤gb+1) HR3.out;have HST:=Aa hst;clear hst e1 e2 hm;go_wp2_with fail
  exact bodyPost_ret (Qf rfl _ _ _ _ _ _ _ (by rfl) (by rfl) HST.out.1) rfl ⟨by rw[hE.out.1,hE.out.2];rfl,by first|exact HW3.out.trans (HST.out.2.below (by omega))|(rw[HGB.out];exact HW3.out.trans (HST.out.2.below (by omega)))⟩
 ·have hm1:¬(0:Int) < (m1:Int):=by omega
  obtain⟨e1,e2⟩:=H2.out (by omega);have hE:Hid (f=d2∧fs=decide (0 < m2)):=Aa ⟨e1,e2⟩;obtain⟨⟨a0,a1⟩,_⟩:=Bz _ _ _ _ _ HA3.out;have HF3:=Aa (HF2.out w3 (by first|exact HW3.out|(rw[HGB.out];exact HW3.out)));clear e1 e2 hm g0 g1 g2 g3 g4 g5 r0 r1 r2 r3 r4 r5;go_wp2_with fail
  refine HF3.out.mono ?_;rintro e w4 ⟨rfl,hb4⟩;have hg4:=(hb4.block G (Ac.1 HG3.out).1).trans HG3.out;have hR4:=(hb4.block (gb+1) (by omega)).trans HR3.out;have hw4:=HW3.out.trans (hb4.mono (by omega));obtain⟨⟨g0,g1,g2⟩,g3,g4,g5⟩:=Bj _ _ _ _ _ _ hg4;have hst:=Cy (.string d2.name) (.int .i64 (d2.obj:Int)) (.int .i64 (d2.sym:Int)) (Af G) hg4;have hGs:G≤w4.heap.size:=Ar (Ac.1 hg4).1;have hb5:=hst.2.below hGs;have hg5:=hst.1;have hR5:=(hb5.block (gb+1) (by omega)).trans hR4;have hw5:=hw4.trans (hb5.mono (by omega));have hs5:gb+2≤w4.heap.size:=by omega
  have hsz:(((w4.setCell ⟨G,0,none⟩ (.string d2.name)).setCell ⟨G,1,none⟩ (.int .i64 (d2.obj:Int))).setCell ⟨G,2,none⟩ (.int .i64 (d2.sym:Int))).heap.size=w4.heap.size:=by simp
  have HSZ:=Aa hsz;have HG5:=Aa hg5;have HR5:=Aa hR5;have HW5:=Aa hw5;clear hst hb5 hg5 hR5 hw5 hb4 hg4 hR4 hw4 hsz a0 a1;go_upto_region 5 with fail
  generalize ((w4.setCell ⟨G,0,none⟩ (.string d2.name)).setCell ⟨G,1,none⟩ (.int .i64 (d2.obj:Int))).setCell ⟨G,2,none⟩ (.int .i64 (d2.sym:Int))=w5 at*;clear g0 g1 g2 g3 g4 g5;obtain⟨⟨g0,g1,g2⟩,g3,g4,g5⟩:=Bj _ _ _ _ _ _ HG5.out;obtain⟨⟨r0,r1,r2⟩,r3,r4,r5⟩:=Bj _ _ _ _ _ _ HR5.out;have hst:=Cy (.string d2.name) (.int .i64 (d2.obj:Int)) (.int .i64 (d2.sym:Int)) (by omega:gb≤gb+1) HR5.out;have HST:=Aa hst;have hs6:gb≤w5.heap.size:=by have:=HSZ.out;omega
  clear hst;go_wp2_with fail
  exact bodyPost_ret (Qf rfl _ _ _ _ _ _ _ (by rfl) (by rfl) HST.out.1) rfl ⟨by rw[hE.out.1,hE.out.2];rfl,by first|exact HW5.out.trans (HST.out.2.below hs6)|(rw[HGB.out];exact HW5.out.trans (HST.out.2.below hs6))⟩
end Go.Proofs.YteopgmieindojaaGreat
