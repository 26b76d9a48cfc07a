/- Parts of a proof. -/
import Derived.Test.YteopgmieindojaaGreatGX01
import Derived.Deep.DeepCutAuto
set_option maxRecDepth 1000000
set_option maxHeartbeats 8000000
namespace Go.Proofs.YteopgmieindojaaGreat
open Go.RowKit
abbrev Nm:=List UInt8
def mayB(l:Nm):Bool:=decide (l.length≤32)&&l.all (fun x=>x != 0)
def Jz(e:List (Nm × Nat))(n:Nm):Option Nat:=(e.find? fun x=>x.1==n).map (·.2)
structure Tab where
 tb:List UInt8
 env:List (Nm × Nat)
def tab0:Tab:=⟨[0], [([],0)]⟩
def Lc(t:Tab)(n:Nm):Tab:=
 match Jz t.env n with
 |some _=>t
 |none=>⟨t.tb++(n++ [0]),t.env++ [(n,t.tb.length)]⟩
def Cj(ns:List Nm):Tab:=ns.foldl Lc tab0
def placeOf(ns:List Nm)(n:Nm):Nat:=(Jz (Cj ns).env n).getD 0
def placesOf(ns:List Nm):List Nat:=ns.map (placeOf ns)
theorem Nk(ns:List Nm)(n:Nm):Cj (ns++ [n])=Lc (Cj ns) n:=by simp[Cj]
theorem Rv(e f:List (Nm × Nat))(n:Nm):Jz (e++f) n=(Jz e n).or (Jz f n):=by
 unfold Jz;rw[List.find?_append];cases List.find? (fun x=>x.1==n) e<;>simp
theorem Jad{t:Tab}{n m:Nm}{p:Nat}(h:Jz t.env m=some p):Jz (Lc t n).env m=some p:=by
 unfold Lc;split
 ·exact h
 ·simp only[Rv,h,Option.some_or]
theorem Sc(t:Tab)(n:Nm):Jz (Lc t n).env n=some ((Jz t.env n).getD t.tb.length):=by
 unfold Lc;split
 ·rename_i p hp;rw[hp];rfl
 ·rename_i hp;simp only[Rv,hp,Option.none_or];simp[Jz]
theorem Xf{t:Tab}{n m:Nm}(hm:m≠n):Jz (Lc t n).env m=Jz t.env m:=by
 unfold Lc;split
 ·rfl
 ·rw[Rv];have:Jz [(n,t.tb.length)] m=none:=by
   have:(n==m)=false:=by simpa using Ne.symm hm
   simp[Jz,List.find?,this]
  rw[this,Option.or_none]
theorem Te{α:Type}{P:List α→Prop}(h0:P [])(hs:∀l x,P l→P (l++ [x]))(l:List α):P l:=by
 have h:∀r:List α,P r.reverse:=fun r=>by
  induction r with
  |nil=>exact h0
  |cons x r ih=>rw[List.reverse_cons];exact hs _ _ ih
 simpa using h l.reverse
theorem Jen(ns:List Nm)(m:Nm):Jz (Cj ns).env m=none ↔ m≠ []∧m∉ns:=by
 induction ns using Te with
 |h0=>
  cases m with
  |nil=>simp[Cj,tab0,Jz]
  |cons x r=>simp[Cj,tab0,Jz,List.find?]
 |hs ns n ih=>
  rw[Nk];by_cases hm:m=n
  ·subst hm;rw[Sc];simp
  ·rw[Xf hm,ih];simp[hm]
theorem Jdj{ns:List Nm}{m:Nm}(h:m= []∨m∈ns):∃p,Jz (Cj ns).env m=some p:=by
 cases hl:Jz (Cj ns).env m with
 |some p=>exact⟨p,rfl⟩
 |none=>
  have:=(Jen ns m).1 hl;rcases h with h|h
  ·exact absurd h this.1
  ·exact absurd h this.2
theorem La{ns:List Nm}{m:Nm}(n:Nm)(h:m= []∨m∈ns):placeOf (ns++ [n]) m=placeOf ns m:=by
 obtain⟨p,hp⟩:=Jdj h;unfold placeOf;rw[Nk,Jad hp,hp]
theorem Tl(ns:List Nm)(n:Nm):placesOf (ns++ [n])=placesOf ns++ [placeOf (ns++ [n]) n]:=by
 unfold placesOf;rw[List.map_append];congr 1;exact List.map_congr_left fun m hm=>La n (.inr hm)
theorem Vd{ns:List Nm}{n:Nm}(h:n= []∨n∈ns):Cj (ns++ [n])=Cj ns∧placeOf (ns++ [n]) n=placeOf ns n:=by
 obtain⟨p,hp⟩:=Jdj h;refine⟨?_,La n h⟩;rw[Nk];simp only[Lc,hp]
theorem Nx{ns:List Nm}{n:Nm}(h0:n≠ [])(h:n∉ns):(Cj (ns++ [n])).tb=(Cj ns).tb++(n++ [0])∧placeOf (ns++ [n]) n=(Cj ns).tb.length:=by
 have hp:=(Jen ns n).2 ⟨h0,h⟩;constructor
 ·rw[Nk];simp only[Lc,hp]
 ·unfold placeOf;rw[Nk,Sc,hp];rfl
theorem Wi(ns:List Nm):placeOf ns []=0:=by
 induction ns using Te with
 |h0=>rfl
 |hs ns n ih=>rw[La n (.inl rfl),ih]
theorem Jr3(ns:List Nm)(m:Nm)(h:m= []∨m∈ns):∃r,(Cj ns).tb.drop (placeOf ns m)=m++0::r:=by
 induction ns using Te with
 |h0=>
  rcases h with rfl|h
  ·exact⟨[],rfl⟩
  ·simp at h
 |hs ns n ih=>
  by_cases ho:m= []∨m∈ns
  ·obtain⟨r,hr⟩:=ih ho;rw[La n ho];have hl:placeOf ns m < (Cj ns).tb.length:=by
    have:=congrArg List.length hr;simp at this;omega
   by_cases hn:n= []∨n∈ns
   ·rw[(Vd hn).1];exact⟨r,hr⟩
   ·obtain⟨h1,h2⟩:=not_or.1 hn;rw[(Nx h1 h2).1,List.drop_append_of_le_length (by omega),hr];exact⟨r++(n++ [0]),by simp⟩
  ·obtain⟨h1,h2⟩:=not_or.1 ho;have hmn:m=n:=by
    rcases h with h|h
    ·exact absurd h h1
    ·rcases List.mem_append.1 h with h|h
     ·exact absurd h h2
     ·simpa using h
   subst hmn;rw[(Nx h1 h2).1,(Nx h1 h2).2,List.drop_left];exact⟨[],rfl⟩
theorem Jet{n:Nm}(h:mayB n=true):n.length≤32∧∀x∈n,x≠0:=by
 simp only[mayB,Bool.and_eq_true,decide_eq_true_eq,List.all_eq_true,bne_iff_ne]at h;exact h
theorem Jhi(ns:List Nm):(Cj ns).tb.length≤33*ns.length+1∨∃n∈ns,mayB n=false:=by
 induction ns using Te with
 |h0=>exact .inl (Af _)
 |hs ns n ih=>
  rcases ih with ih|⟨m,hm,h⟩
  ·cases hn:mayB n with
   |false=>exact .inr ⟨n,by simp,hn⟩
   |true=>
    have h32:=(Jet hn).1;by_cases ho:n= []∨n∈ns
    ·rw[(Vd ho).1];exact .inl (by simp;omega)
    ·obtain⟨h1,h2⟩:=not_or.1 ho;rw[(Nx h1 h2).1];exact .inl (by simp;omega)
  ·exact .inr ⟨m,by simp[hm],h⟩
theorem Wo{a b:Bool}(h:a=b):Ending.returned (.bool a)= .returned (.bool b):=by rw[h]
theorem Jak{l:Nm}(h:32 < l.length):mayB l=false:=by simp[mayB];omega
theorem Ja6{l:Nm}{k:Nat}(h:l[k]?=some 0):mayB l=false:=by
 have:=Ad h;simp only[mayB,Bool.and_eq_false_iff];exact .inr (by rw[List.all_eq_false];exact⟨0,this,by simp⟩)
theorem Je3{l:Nm}(h:l.length≤32)(hb:∀i y,i < l.length→l[i]?=some y→y≠0):mayB l=true:=by
 simp only[mayB,Bool.and_eq_true,decide_eq_true_eq,List.all_eq_true,bne_iff_ne]
 exact⟨h,fun x hx=>by
  obtain⟨i,hi⟩:=Av hx
  exact hb i x (Ab.1 hi).1 hi⟩
theorem Vw(s:ByteArray)(w:World):Calls Tryz.prog 120 #[.string s] w fun e w'=>e= .returned (.bool (mayB s.data.toList))∧w=w':=by
 have hz:s.data.toList.length=s.size:=by simp
 have HZ:=Aa hz;clear hz;go_enter Tryz.func120,Tryz.ntmps120;go_wp2;go_loop [3] (fun i=>∃k:Nat,k≤s.size∧k≤32∧i= .int .i64 (k:Int)∧(∀j y,j < k→s.data.toList[j]?=some y→y≠0)) (fun i=>s.size - (intOf i).toNat)
 case atStart=>exact⟨0,Ak _,Ak _,rfl,fun j y hj=>absurd hj (by omega)⟩
 case round=>
  obtain⟨k,hk,hk32,rfl,hb⟩:=hrel;have HB:=Aa hb;clear hb;by_cases hlt:k < s.size
  ·have hx:s.data.toList[k]?=some s[k]:=by
    rw[Ae (by simpa using hlt)];rfl
   have HX:=Aa hx;clear hx;by_cases h32:k=32
   ·have HV:Hid (mayB s.data.toList=false):=Aa (Jak (by rw[HZ.out];omega));have hI:((k:Int)==32)=true:=by simp;omega
    clear h32;go_wp2;go_ret;exact⟨Wo HV.out.symm,rfl⟩
   ·have hI:((k:Int)==32)=false:=by simp;omega
    by_cases h0:s[k]=0
    ·have HV:Hid (mayB s.data.toList=false):=Aa (Ja6 (k:=k) (by rw[HX.out,h0]));have hJ:((s[k].toNat:Int)==0)=true:=by rw[h0];rfl
     clear h0 h32;go_wp2;go_ret;exact⟨Wo HV.out.symm,rfl⟩
    ·have hJ:((s[k].toNat:Int)==0)=false:=by
      have:s[k].toNat≠0:=fun h=>h0 (UInt8.toNat_inj.1 h);simp;omega
     have HB2:Hid (∀j y,j < k+1→s.data.toList[j]?=some y→y≠0):=Aa fun j y hj hy=>by
      by_cases e:j=k
      ·subst e;rw[HX.out]at hy;cases hy;exact h0
      ·exact HB.out j y (by omega) hy
     clear h0;go_wp2;go_round
     case rel=>exact⟨k+1,by omega,by omega,by go_num,HB2.out⟩
     case measure=>simp[intOf];omega
  ·have HV:Hid (mayB s.data.toList=true):=Aa (Je3 (by rw[HZ.out];omega) fun i y hi=>HB.out i y (by rw[HZ.out]at hi;omega));go_wp2;go_ret;exact⟨Wo HV.out.symm,rfl⟩
end Go.Proofs.YteopgmieindojaaGreat
