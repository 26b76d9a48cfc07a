/- Parts of a proof. -/
import Derived.WalkKit
import Derived.ProofKit
import Derived.Below
import Derived.Laws.BytesArg
import Derived.Laws.AppendOwn
import Derived.Deep.Draws
import Derived.Deep.Slices
import Derived.Deep.Fields
import Derived.ChangeArms
import Derived.ShutString
import Derived.Test.YteopgmieindojaaGreatChecked
import Derived.OwnWalk
import Derived.LoopTactic
import Derived.Lib.Hide
import Derived.Outline
import Derived.WalkSpells
import Derived.Laws.CopyOwn
import Derived.Laws.AppendOwnNone
import Derived.Deep.RegionWith
import Derived.Deep.DeepCutAuto
set_option maxRecDepth 1000000
set_option maxHeartbeats 8000000
namespace Go.Proofs.YteopgmieindojaaGreat
open Go.RowKit
theorem Aa {p : Prop} (h : p) : Hid p := Lib.hid h
theorem Ab {α : Type _} {l : List α} {i : Nat} {a : α} : l[i]? = some a ↔ ∃ h : i < l.length, l[i] = a := List.getElem?_eq_some_iff
theorem Ac {α : Type _} {l : Array α} {i : Nat} {a : α} : l[i]? = some a ↔ ∃ h : i < l.size, l[i] = a := Array.getElem?_eq_some_iff
theorem Ad {α : Type _} {l : List α} {i : Nat} {a : α} (h : l[i]? = some a) : a ∈ l := List.mem_of_getElem? h
theorem Ae {α : Type _} {l : List α} {i : Nat} (h : i < l.length) : l[i]? = some l[i] := List.getElem?_eq_getElem h
theorem Af (n : Nat) : n ≤ n := Nat.le_refl n
theorem Ag (B : Nat) (w : World) : Below B w w := Below.refl B w
theorem Ah (w : World) (o : Obj) : (w.alloc o).heap[w.heap.size]? = some o := heap_alloc_new w o
theorem Ai {p : Prop} [Decidable p] (h : ¬ p) : decide p = false := decide_eq_false h
theorem Aj {p : Prop} [Decidable p] (h : p) : decide p = true := decide_eq_true h
theorem Ak (n : Nat) : 0 ≤ n := Nat.zero_le n
theorem Al (n : Int) (h : -9223372036854775808 ≤ n ∧ n ≤ 9223372036854775807) : IntKind.i64.wrap n = n := IntWalk.i64_in n h
theorem Am (w : World) (g j : Nat) (cs : Array Value) (t : TypeId) (fr : Nat × Nat) (h : w.heap[g]? = some (.cells cs t fr)) : w.cell? ⟨g, j, none⟩ = cs[j]? := cell_of_row w g j cs t fr h
theorem An (w : World) (g i : Nat) (cs : Array Value) (t : TypeId) (v : Value) (h : w.heap[g]? = some (.cells cs t)) : (w.setCell ⟨g, i, none⟩ v).heap[g]? = some (.cells (cs.setIfInBounds i v) t) := heap_setCell_same w g i cs t v h
theorem Ao (w : World) (a : Addr) {u : Value} (h : w.cell? a = some u) : a.block < w.heap.size := World.block_lt_of_cell? w a h
theorem Ap (w : World) (g j : Nat) (cs : Array Value) (t : TypeId) (h : w.heap[g]? = some (.cells cs t)) : w.frozen? ⟨g, j, none⟩ = false := frozen_of_row w g j cs t h
theorem Aq (w : World) (b : Nat) (e : TypeId) (s : Nat) : w.ownsRow b e s (.slice none 0 0) 0 [] := World.ownsRow_nil w b e s
theorem Ar {a b : Nat} (h : a < b) : a ≤ b := Nat.le_of_lt h
theorem Au {a : Int} (h : 0 ≤ a) : ∃ n : Nat, a = n := Int.eq_ofNat_of_zero_le h
theorem Av {α : Type _} {a : α} {l : List α} (h : a ∈ l) : ∃ i : Nat, l[i]? = some a := List.getElem?_of_mem h
theorem Aw {a b c : Nat} (h : a ≤ b) (k : b ≤ c) : a ≤ c := Nat.le_trans h k
end Go.Proofs.YteopgmieindojaaGreat
namespace Go.Proofs.YteopgmieindojaaGreat
open Go.RowKit
def num:List UInt8→Nat
 | []=>0
 |x::r=>x.toNat+256*num r
def leB:Nat→Nat→List UInt8
 |0,_=> []
 |k+1,v=>UInt8.ofNat v::leB k (v / 256)
theorem Dp:∀k v,(leB k v).length=k
 |0,_=>rfl
 |k+1,v=>by simp[leB,Dp k]
theorem Jgn:∀k v i,i < k→(leB k v)[i]?=some (UInt8.ofNat (v / 256 ^ i))
 |0,_,_,h=>absurd h (by omega)
 |k+1,v,0,_=>by simp[leB]
 |k+1,v,i+1,h=>by
  have e:=Jgn k (v / 256) i (by omega);simp only[leB,List.getElem?_cons_succ,e];rw[Nat.div_div_eq_div_mul,Nat.pow_succ,Nat.mul_comm 256]
def Has(w:World)(p:Option Addr)(l:List UInt8):Prop:=
 ∀i x,l[i]?=some x→∃a,p=some a∧w.cell? (a.add i)=some (.int .u8 (x.toNat:Int))
theorem Mx(a:Addr)(n:Nat):(a.add n).block=a.block:=by unfold Addr.add;split<;>rfl
theorem Jh8(a:Addr)(i j:Nat):(a.add i).add j=a.add (i+j):=by
 unfold Addr.add;by_cases hi:i=0<;>by_cases hj:j=0<;>simp[hi,hj,Nat.add_assoc]
theorem Has.none_(w:World)(p:Option Addr):Has w p []:=fun i x h=>by simp at h
theorem Has.keep{w w':World}{p:Option Addr}{l:List UInt8}(h:Has w p l)(hk:∀a:Addr,a.block < w.heap.size→w'.cell? a=w.cell? a):Has w' p l:=fun i x hx=>by
 obtain⟨a,e,hc⟩:=h i x hx;exact⟨a,e,(hk _ (Ao w _ hc)).trans hc⟩
theorem Has.below{w w':World}{p:Option Addr}{l:List UInt8}(h:Has w p l)(hb:Below w.heap.size w w'):Has w' p l:=h.keep fun _ ha=>hb.cell ha
theorem Has.at_{w:World}{p:Option Addr}{l:List UInt8}(h:Has w p l){i:Nat}(hi:i < l.length):
 ∃b off x,p=some ⟨b,off,none⟩∧l[i]?=some x∧w.cell? ⟨b,off+i,none⟩=some (.int .u8 (x.toNat:Int)):=by
 obtain⟨⟨b,off,spot⟩,e,hc⟩:=h i l[i] (Ae hi);have hs:spot=none:=by
  obtain⟨a0,e0,hc0⟩:=h 0 l[0] (Ae (by omega));rw[e]at e0;cases e0;simpa[Addr.add]using World.cell?_spot hc0
 subst hs;refine⟨b,off,l[i],e,Ae hi,?_⟩;have ha:(⟨b,off,none⟩:Addr).add i=⟨b,off+i,none⟩:=by unfold Addr.add;split<;>simp_all
 rwa [ha]at hc
theorem Has.plain{w:World}{p:Option Addr}{l:List UInt8}(h:Has w p l)(hl:0 < l.length):
 ∃b off,p=some ⟨b,off,none⟩∧∀i x,l[i]?=some x→w.cell? ⟨b,off+i,none⟩=some (.int .u8 (x.toNat:Int)):=by
 obtain⟨b,off,x,e,_,_⟩:=h.at_ hl;refine⟨b,off,e,fun i y hy=>?_⟩;obtain⟨b',off',y',e',hy',hc⟩:=h.at_ (Ab.1 hy).1;rw[e]at e';simp only[Option.some.injEq,Addr.mk.injEq,and_true]at e';obtain⟨rfl,rfl⟩:=e';rw[hy]at hy';cases hy';exact hc
theorem Has.of_plain{w:World}{b off:Nat}{l:List UInt8}(h:∀i x,l[i]?=some x→w.cell? ⟨b,off+i,none⟩=some (.int .u8 (x.toNat:Int))):Has w (some ⟨b,off,none⟩) l:=fun i x hx=>
 ⟨_,rfl,by
   have ha:(⟨b,off,none⟩:Addr).add i=⟨b,off+i,none⟩:=by unfold Addr.add;split<;>simp_all
   rw[ha]
   exact h i x hx⟩
theorem Has.cut{w:World}{p:Option Addr}{l:List UInt8}(h:Has w p l)(lo hi cap:Nat)(hh:hi≤l.length)(hc:l.length≤cap):
 Has w (if cap=lo then p else p.map (·.add lo)) ((l.take hi).drop lo):=fun i x hx=>by
 rw[List.getElem?_drop,List.getElem?_take]at hx;split at hx
 ·obtain⟨a,rfl,hcell⟩:=h _ _ hx;rw[if_neg (by omega)];exact⟨_,rfl,by rw[Jh8];exact hcell⟩
 ·cases hx
def str(l:List UInt8):ByteArray:=⟨l.toArray⟩
theorem Jn1{P:Program}(w:World)(src e dst:TypeId)(hs:P.underlying src=some (.slice e))(he:P.underlying e=some (.int .u8))(hd:P.underlying dst=some .string)
 {p:Option Addr}{l:List UInt8}(h:Has w p l)(n cap:Nat)(hn:l.length=n):(convert src dst (.slice p n cap)).run P w= .ok (.string (str l)) w:=by
 subst hn;rcases p with _|a
 ·have hl:l= []:=by
   cases l with
   |nil=>rfl
   |cons x r=>obtain⟨a,e,_⟩:=h 0 x rfl;cases e
  subst hl;exact run_convert_bytes_nil w src e hs he _ _ dst hd
 ·rw[run_convert_bytes_string w src dst e _ _ cap hs he hd];have hl:(loadCells a l.length).run P w= .ok ((l.map fun x=>(x.toNat:Int)).map (Value.int .u8)).toArray w:=by
   have:=run_loadCells_list (P:=P) w a ((l.map fun x=>(x.toNat:Int)).map (Value.int .u8)) (fun j v hj=>by
    simp only[List.map_map,List.getElem?_map,Option.map_eq_some_iff,Function.comp]at hj;obtain⟨x,hx,rfl⟩:=hj;obtain⟨a',e,hc⟩:=h j x hx;cases e
    exact hc)
   simpa using this
  rw[run_bytesToString w a l.length cap _ hl,foldl_push_bytes];congr 2;unfold str;apply ByteArray.ext;simp[ByteArray.empty,ByteArray.emptyWithCapacity,List.map_map,Function.comp_def];rfl
end Go.Proofs.YteopgmieindojaaGreat
namespace Go.Proofs.YteopgmieindojaaGreat
open Go.ChangeShapes Go.WideShapes Go.RowKit Go.Deep
def Bg{α:Type}(k:Nat)(E:World→Nat→Nat→α→Prop)(w:World)(p:Option Addr)(xs:List α):Prop:=
 ∀i x,xs[i]?=some x→∃b off,p=some ⟨b,off,none⟩∧E w b (off+i*k) x
def IsL{α:Type}(k:Nat)(E:World→Nat→Nat→α→Prop)(w:World)(v:Value)(xs:List α):Prop:=
 ∃p c,v= .slice p xs.length c∧xs.length≤c∧c≤maxLen∧(p=none→c=0)∧Bg k E w p xs
def Hb{α:Type}(E:World→Nat→Nat→α→Prop):Prop:=∀w w' b o x,Below w.heap.size w w'→E w b o x→E w' b o x
theorem Bg.below{α:Type}{k:Nat}{E:World→Nat→Nat→α→Prop}(hE:Hb E){w w':World}{p:Option Addr}{xs:List α}(hb:Below w.heap.size w w')(h:Bg k E w p xs):Bg k E w' p xs:=fun i x hx=>by
 obtain⟨b,off,e,hx⟩:=h i x hx;exact⟨b,off,e,hE _ _ _ _ _ hb hx⟩
theorem IsL.below{α:Type}{k:Nat}{E:World→Nat→Nat→α→Prop}(hE:Hb E){w w':World}{v:Value}{xs:List α}(hb:Below w.heap.size w w')(h:IsL k E w v xs):IsL k E w' v xs:=by
 obtain⟨p,c,e,h1,h2,h3,h4⟩:=h;exact⟨p,c,e,h1,h2,h3,h4.below hE hb⟩
theorem Cf{w w':World}{a:Addr}{v:Value}(hb:Below w.heap.size w w')(h:w.cell? a=some v):w'.cell? a=some v:=(hb.cell (Ao w a h)).trans h
theorem Bg.at_{α:Type}{k:Nat}{E:World→Nat→Nat→α→Prop}{w:World}{p:Option Addr}{xs:List α}(h:Bg k E w p xs){i:Nat}(hi:i < xs.length):
 ∃b off x,p=some ⟨b,off,none⟩∧xs[i]?=some x∧E w b (off+i*k) x:=by
 obtain⟨b,off,e,hx⟩:=h i xs[i] (Ae hi);exact⟨b,off,xs[i],e,Ae hi,hx⟩
def Cc(w:World)(b o:Nat)(x:Int):Prop:=w.cell? ⟨b,o,none⟩=some (.int .i64 x)∧ -9223372036854775808≤x∧x≤9223372036854775807
def Ds(w:World)(b o:Nat)(x:UInt8):Prop:=w.cell? ⟨b,o,none⟩=some (.int .u8 (x.toNat:Int))
def Rr(w:World)(b o:Nat)(x:ByteArray):Prop:=w.cell? ⟨b,o,none⟩=some (.string x)∧x.size≤maxLen
theorem Cc.keeps:Hb Cc:=fun _ _ _ _ _ hb h=>⟨Cf hb h.1,h.2⟩
theorem Ds.keeps:Hb Ds:=fun _ _ _ _ _ hb h=>Cf hb h
theorem Rr.keeps:Hb Rr:=fun _ _ _ _ _ hb h=>⟨Cf hb h.1,h.2⟩
theorem Bg.has{w:World}{p:Option Addr}{l:List UInt8}(h:Bg 1 Ds w p l):Has w p l:=fun i x hx=>by
 obtain⟨b,off,rfl,hc⟩:=h i x hx;refine⟨_,rfl,?_⟩;have ha:(⟨b,off,none⟩:Addr).add i=⟨b,off+i,none⟩:=by unfold Addr.add;split<;>simp_all
 rw[ha];have hc':w.cell? ⟨b,off+i*1,none⟩=some (.int .u8 (x.toNat:Int)):=hc
 rwa [Nat.mul_one]at hc'
section
variable {H:Type} {enc:TypeId × Value→H} {P:Program} {w:World} {base:Nat} {spare:Nat→Bool} {held:Bool}
def Ol{α:Type}(enc:TypeId × Value→H)(P:Program)(w:World)(base:Nat)(spare:Nat→Bool)(held:Bool)(k:Nat)(e:TypeId)(E:World→Nat→Nat→α→Prop):Prop:=
 ∀(n b o:Nat)(cs:List Value)(x:DataW H × List MemPlace),cs.length=k→(∀j,j < k→w.cell? ⟨b,o+j,none⟩=cs[j]?)→DataW.trod enc P w base spare held n e cs=some x→∃y:α,E w b o y
theorem Om{α:Type}{k:Nat}{E:World→Nat→Nat→α→Prop}{t e:TypeId}{fuel:Nat}{v:Value}{x:DataW H × List MemPlace}(ht:P.underlying t=some (.slice e))(hk:P.cellsOf e=k)(h1:0 < k)
 (hE:Ol enc P w base spare held k e E)(h:DataW.trod enc P w base spare held fuel t [v]=some x):∃xs:List α,IsL k E w v xs:=by
 rcases open_slice ht h with⟨hcs,_⟩|⟨a,len,cap,m,n,D,Pl,hcs,_,hl,hm,hmm,_,hi⟩
 ·simp only[List.cons.injEq,and_true]at hcs;exact⟨[],none,0,hcs,Af _,Ak _,fun _=>rfl,fun i x hx=>by simp at hx⟩
 ·simp only[List.cons.injEq,and_true]at hcs;have hlm:len≤m:=by rw[hmm];split<;>omega
  obtain⟨b,off,spot⟩:=a;by_cases h0:len=0
  ·subst h0;exact⟨[],_,_,hcs,Ak _,hm,(fun h=>by cases h),fun i x hx=>by simp at hx⟩
  have hsp:spot=none:=by
   obtain⟨cs',hc,_⟩:=hi 0 (by omega);obtain⟨_,hlen,hat⟩:=World.cells?_some hc;have:=hat 0 (by omega);rw[Ae (by omega)]at this;simpa[Addr.add]using World.cell?_spot this
  subst hsp;have hall:∀i,i < len→∃y:α,E w b (off+i*k) y:=fun i hil=>by
   obtain⟨cs',hc,ht'⟩:=hi i (by omega);obtain⟨_,hlen,hat⟩:=World.cells?_some hc;rw[hk]at hlen hat;refine hE n b (off+i*k) cs' _ hlen (fun j hj=>?_) ht';rw[←hat j hj];congr 1;unfold Addr.add;by_cases hz:i*k=0<;>by_cases hz2:j=0<;>simp[hz,hz2,Nat.add_assoc]
  have:∀n,n≤len→∃xs:List α,xs.length=n∧∀i x,xs[i]?=some x→E w b (off+i*k) x:=fun n=>by
   induction n with
   |zero=>exact fun _=>⟨[],rfl,fun i x hx=>by simp at hx⟩
   |succ n ih=>
    intro hn;obtain⟨xs,hl,hx⟩:=ih (by omega);obtain⟨y,hy⟩:=hall n (by omega);refine⟨xs++ [y],by simp[hl],fun i x hix=>?_⟩;rw[List.getElem?_append]at hix;split at hix
    ·exact hx i x hix
    ·have hi0:i - xs.length=0:=by
      have:=(Ab.1 hix).1;simp at this;omega
     rw[hi0]at hix;simp at hix;subst hix;rw[show i=n by omega];exact hy
  obtain⟨xs,hxl,hxs⟩:=this len (Af _);exact⟨xs,some ⟨b,off,none⟩,cap,by rw[hxl];exact hcs,by omega,hm,(fun h=>by cases h),fun i x hx=>⟨b,off,rfl,hxs i x hx⟩⟩
theorem Mh{t:TypeId}{fs:Array Field}{fuel:Nat}{cs:List Value}{x:DataW H × List MemPlace}(hs:P.underlying t=some (.struct fs))(hone:oneCellFields P fs=true)(hC:P.cellsOf t=fs.size)
 (h:DataW.trod enc P w base spare held fuel t cs=some x):
 cs.length=fs.size∧∃n,∀(j:Nat)(f:Field),fs[j]?=some f→∃(v:Value)(y:DataW H × List MemPlace),cs[j]?=some v∧DataW.trod enc P w base spare held n f.type [v]=some y:=by
 obtain⟨ys,n,_,_,hlen,hyl,hf⟩:=DataW.trod_struct hs h;rw[hC]at hlen;refine⟨hlen,n,fun j f hj=>?_⟩;obtain⟨ho,hk⟩:=hone_of hone j f hj;have hjl:j < fs.size:=(Ac.1 hj).1;have h1:=hf j f hj;rw[ho,hk]at h1;have hone':(cs.drop j).take 1= [cs[j]'(by omega)]:=by
  rw[List.drop_eq_getElem_cons (by omega)];rfl
 rw[hone']at h1;exact⟨_,_,Ae (by omega),h1.trans (Ae (by omega))⟩
theorem Jrs{n:Int}(h:(Lit.int .i64 n).wf=true): -9223372036854775808≤n∧n≤9223372036854775807:=by
 simpa[Lit.wf,IntKind.min,IntKind.max,IntKind.signed,IntKind.bits]using h
theorem wf_u8{n:Int}(h:(Lit.int .u8 n).wf=true):0≤n∧n≤255:=by
 simpa[Lit.wf,IntKind.min,IntKind.max,IntKind.signed,IntKind.bits]using h
theorem Ez{t:TypeId}{n:Nat}{v:Value}{y:DataW H × List MemPlace}(ht:P.underlying t=some (.int .i64))(h:DataW.trod enc P w base spare held n t [v]=some y):
 ∃x:Int,v= .int .i64 x∧ -9223372036854775808≤x∧x≤9223372036854775807:=by
 obtain⟨x,hx,_,hw⟩:=DataW.trod_int ht h;simp only[List.cons.injEq,and_true]at hx;exact⟨x,hx,Jrs hw⟩
theorem Jc7{t:TypeId}{n:Nat}{v:Value}{y:DataW H × List MemPlace}(ht:P.underlying t=some .string)(h:DataW.trod enc P w base spare held n t [v]=some y):
 ∃s:ByteArray,v= .string s∧s.size≤maxLen:=by
 obtain⟨s,hs,_,hz⟩:=DataW.trod_string ht h;simp only[List.cons.injEq,and_true]at hs;exact⟨s,hs,hz⟩
theorem Jkj{t:TypeId}{n:Nat}{v:Value}{y:DataW H × List MemPlace}(ht:P.underlying t=some .bool)(h:DataW.trod enc P w base spare held n t [v]=some y):∃b:Bool,v= .bool b:=by
 obtain⟨b,hb,_⟩:=DataW.trod_bool ht h;simp only[List.cons.injEq,and_true]at hb;exact⟨b,hb⟩
theorem Jam{e:TypeId}(he:P.underlying e=some (.int .i64)):Ol enc P w base spare held 1 e Cc:=fun n b o cs x hl hc h=>by
 match cs,hl with
 | [v],_=>
   obtain⟨x,rfl,hx⟩:=Ez he h;exact⟨x,by simpa using hc 0 (by omega),hx⟩
theorem Jiw{e:TypeId}(he:P.underlying e=some (.int .u8)):Ol enc P w base spare held 1 e Ds:=fun n b o cs x hl hc h=>by
 match cs,hl with
 | [v],_=>
   obtain⟨x,hx,_,hw⟩:=DataW.trod_int he h;simp only[List.cons.injEq,and_true]at hx;subst hx;obtain⟨h0,h1⟩:=wf_u8 hw;obtain⟨m,rfl⟩:=Au h0;refine⟨UInt8.ofNat m,?_⟩;have e:((UInt8.ofNat m).toNat:Int)=(m:Int):=by rw[UInt8.toNat_ofNat'];omega
   unfold Ds;rw[e];simpa using hc 0 (by omega)
end
structure Ea where
 (off type sym add:Int)
structure Ca where
 (name:ByteArray)
 (type flags align ent link size:Int)
 (data:List UInt8)
 (rels:List Ea)
structure Ct where
 (name:ByteArray)
 (bind type sec value size:Int)
structure Cs where
 (sym:Int)
 (members:List Int)
structure Az where
 (secs:List Ca)
 (syms:List Ct)
 (groups:List Cs)
 (hasSig:Bool)
 (sig:List Int)
def Hk(w:World)(b o:Nat)(r:Ea):Prop:=Cc w b o r.off∧Cc w b (o+1) r.type∧Cc w b (o+2) r.sym∧Cc w b (o+3) r.add
def Ev(w:World)(b o:Nat)(s:Ca):Prop:=
 Rr w b o s.name∧Cc w b (o+1) s.type∧Cc w b (o+2) s.flags∧Cc w b (o+3) s.align∧Cc w b (o+4) s.ent∧Cc w b (o+5) s.link∧Cc w b (o+6) s.size∧
 (∃v,w.cell? ⟨b,o+7,none⟩=some v∧IsL 1 Ds w v s.data)∧(∃v,w.cell? ⟨b,o+8,none⟩=some v∧IsL 4 Hk w v s.rels)
def Ie(w:World)(b o:Nat)(s:Ct):Prop:=
 Rr w b o s.name∧Cc w b (o+1) s.bind∧Cc w b (o+2) s.type∧Cc w b (o+3) s.sec∧Cc w b (o+4) s.value∧Cc w b (o+5) s.size
def Ew(w:World)(b o:Nat)(g:Cs):Prop:=Cc w b o g.sym∧∃v,w.cell? ⟨b,o+1,none⟩=some v∧IsL 1 Cc w v g.members
def Dn(w:World)(v0 v1 v2 v4:Value)(o:Az):Prop:=IsL 9 Ev w v0 o.secs∧IsL 6 Ie w v1 o.syms∧IsL 2 Ew w v2 o.groups∧IsL 1 Cc w v4 o.sig
def Cg(w:World)(b p:Nat)(o:Az):Prop:=∃v0 v1 v2 v4,w.cell? ⟨b,p,none⟩=some v0∧w.cell? ⟨b,p+1,none⟩=some v1∧w.cell? ⟨b,p+2,none⟩=some v2∧w.cell? ⟨b,p+3,none⟩=some (.bool o.hasSig)∧w.cell? ⟨b,p+4,none⟩=some v4∧Dn w v0 v1 v2 v4 o
theorem Hk.keeps:Hb Hk:=fun _ _ _ _ _ hb ⟨h0,h1,h2,h3⟩=>⟨Cc.keeps _ _ _ _ _ hb h0,Cc.keeps _ _ _ _ _ hb h1,Cc.keeps _ _ _ _ _ hb h2,Cc.keeps _ _ _ _ _ hb h3⟩
theorem Ev.keeps:Hb Ev:=fun _ _ _ _ _ hb ⟨h0,h1,h2,h3,h4,h5,h6,⟨v7,c7,h7⟩,⟨v8,c8,h8⟩⟩=>
 ⟨Rr.keeps _ _ _ _ _ hb h0,Cc.keeps _ _ _ _ _ hb h1,Cc.keeps _ _ _ _ _ hb h2,Cc.keeps _ _ _ _ _ hb h3,Cc.keeps _ _ _ _ _ hb h4,Cc.keeps _ _ _ _ _ hb h5,Cc.keeps _ _ _ _ _ hb h6,
  ⟨v7,Cf hb c7,h7.below Ds.keeps hb⟩,⟨v8,Cf hb c8,h8.below Hk.keeps hb⟩⟩
theorem Ie.keeps:Hb Ie:=fun _ _ _ _ _ hb ⟨h0,h1,h2,h3,h4,h5⟩=>
 ⟨Rr.keeps _ _ _ _ _ hb h0,Cc.keeps _ _ _ _ _ hb h1,Cc.keeps _ _ _ _ _ hb h2,Cc.keeps _ _ _ _ _ hb h3,Cc.keeps _ _ _ _ _ hb h4,Cc.keeps _ _ _ _ _ hb h5⟩
theorem Ew.keeps:Hb Ew:=fun _ _ _ _ _ hb ⟨h0,v1,c1,h1⟩=>⟨Cc.keeps _ _ _ _ _ hb h0,v1,Cf hb c1,h1.below Cc.keeps hb⟩
theorem Dn.below{w w':World}{v0 v1 v2 v4:Value}{o:Az}(hb:Below w.heap.size w w')(h:Dn w v0 v1 v2 v4 o):Dn w' v0 v1 v2 v4 o:=
 ⟨h.1.below Ev.keeps hb,h.2.1.below Ie.keeps hb,h.2.2.1.below Ew.keeps hb,h.2.2.2.below Cc.keeps hb⟩
theorem Cg.keeps:Hb Cg:=fun _ _ _ _ _ hb ⟨v0,v1,v2,v4,c0,c1,c2,c3,c4,hp⟩=>
 ⟨v0,v1,v2,v4,Cf hb c0,Cf hb c1,Cf hb c2,Cf hb c3,Cf hb c4,hp.below hb⟩
section
variable {H:Type} {enc:TypeId × Value→H} {w:World} {base:Nat} {spare:Nat→Bool} {held:Bool}
theorem Jll:Ol enc Tryz.prog w base spare held 4 94 Hk:=fun n b o cs x hl hc h=>by
 obtain⟨_,m,hf⟩:=Mh Tryz.underlying94 (by kernel_rfl) (by kernel_rfl) h;obtain⟨v0,_,c0,r0⟩:=hf 0 _ rfl;obtain⟨v1,_,c1,r1⟩:=hf 1 _ rfl;obtain⟨v2,_,c2,r2⟩:=hf 2 _ rfl;obtain⟨v3,_,c3,r3⟩:=hf 3 _ rfl;obtain⟨x0,rfl,b0⟩:=Ez Tryz.underlying3 r0;obtain⟨x1,rfl,b1⟩:=Ez Tryz.underlying3 r1;obtain⟨x2,rfl,b2⟩:=Ez Tryz.underlying3 r2;obtain⟨x3,rfl,b3⟩:=Ez Tryz.underlying3 r3;exact⟨⟨x0,x1,x2,x3⟩,⟨(hc 0 (by omega)).trans c0,b0⟩,⟨(hc 1 (by omega)).trans c1,b1⟩,⟨(hc 2 (by omega)).trans c2,b2⟩,⟨(hc 3 (by omega)).trans c3,b3⟩⟩
theorem Jkc:Ol enc Tryz.prog w base spare held 9 89 Ev:=fun n b o cs x hl hc h=>by
 obtain⟨_,m,hf⟩:=Mh Tryz.underlying89 (by kernel_rfl) (by kernel_rfl) h;obtain⟨v0,_,c0,r0⟩:=hf 0 _ rfl;obtain⟨v1,_,c1,r1⟩:=hf 1 _ rfl;obtain⟨v2,_,c2,r2⟩:=hf 2 _ rfl;obtain⟨v3,_,c3,r3⟩:=hf 3 _ rfl;obtain⟨v4,_,c4,r4⟩:=hf 4 _ rfl;obtain⟨v5,_,c5,r5⟩:=hf 5 _ rfl;obtain⟨v6,_,c6,r6⟩:=hf 6 _ rfl;obtain⟨v7,_,c7,r7⟩:=hf 7 _ rfl;obtain⟨v8,_,c8,r8⟩:=hf 8 _ rfl;obtain⟨x0,rfl,b0⟩:=Jc7 Tryz.underlying9 r0;obtain⟨x1,rfl,b1⟩:=Ez Tryz.underlying3 r1;obtain⟨x2,rfl,b2⟩:=Ez Tryz.underlying3 r2;obtain⟨x3,rfl,b3⟩:=Ez Tryz.underlying3 r3;obtain⟨x4,rfl,b4⟩:=Ez Tryz.underlying3 r4;obtain⟨x5,rfl,b5⟩:=Ez Tryz.underlying3 r5;obtain⟨x6,rfl,b6⟩:=Ez Tryz.underlying3 r6;obtain⟨x7,h7⟩:=Om Tryz.underlying31 (by kernel_rfl) (by omega) (Jiw Tryz.underlying5) r7;obtain⟨x8,h8⟩:=Om Tryz.underlying87 (by kernel_rfl) (by omega) Jll r8
 exact⟨⟨x0,x1,x2,x3,x4,x5,x6,x7,x8⟩,⟨(hc 0 (by omega)).trans c0,b0⟩,⟨(hc 1 (by omega)).trans c1,b1⟩,⟨(hc 2 (by omega)).trans c2,b2⟩,⟨(hc 3 (by omega)).trans c3,b3⟩,⟨(hc 4 (by omega)).trans c4,b4⟩,⟨(hc 5 (by omega)).trans c5,b5⟩,⟨(hc 6 (by omega)).trans c6,b6⟩,
  ⟨_,(hc 7 (by omega)).trans c7,h7⟩,⟨_,(hc 8 (by omega)).trans c8,h8⟩⟩
theorem Jku:Ol enc Tryz.prog w base spare held 6 98 Ie:=fun n b o cs x hl hc h=>by
 obtain⟨_,m,hf⟩:=Mh Tryz.underlying98 (by kernel_rfl) (by kernel_rfl) h;obtain⟨v0,_,c0,r0⟩:=hf 0 _ rfl;obtain⟨v1,_,c1,r1⟩:=hf 1 _ rfl;obtain⟨v2,_,c2,r2⟩:=hf 2 _ rfl;obtain⟨v3,_,c3,r3⟩:=hf 3 _ rfl;obtain⟨v4,_,c4,r4⟩:=hf 4 _ rfl;obtain⟨v5,_,c5,r5⟩:=hf 5 _ rfl;obtain⟨x0,rfl,b0⟩:=Jc7 Tryz.underlying9 r0;obtain⟨x1,rfl,b1⟩:=Ez Tryz.underlying3 r1;obtain⟨x2,rfl,b2⟩:=Ez Tryz.underlying3 r2;obtain⟨x3,rfl,b3⟩:=Ez Tryz.underlying3 r3;obtain⟨x4,rfl,b4⟩:=Ez Tryz.underlying3 r4;obtain⟨x5,rfl,b5⟩:=Ez Tryz.underlying3 r5;exact⟨⟨x0,x1,x2,x3,x4,x5⟩,⟨(hc 0 (by omega)).trans c0,b0⟩,⟨(hc 1 (by omega)).trans c1,b1⟩,⟨(hc 2 (by omega)).trans c2,b2⟩,⟨(hc 3 (by omega)).trans c3,b3⟩,⟨(hc 4 (by omega)).trans c4,b4⟩,⟨(hc 5 (by omega)).trans c5,b5⟩⟩
theorem Je4:Ol enc Tryz.prog w base spare held 2 100 Ew:=fun n b o cs x hl hc h=>by
 obtain⟨_,m,hf⟩:=Mh Tryz.underlying100 (by kernel_rfl) (by kernel_rfl) h;obtain⟨v0,_,c0,r0⟩:=hf 0 _ rfl;obtain⟨v1,_,c1,r1⟩:=hf 1 _ rfl;obtain⟨x0,rfl,b0⟩:=Ez Tryz.underlying3 r0;obtain⟨x1,h1⟩:=Om Tryz.underlying25 (by kernel_rfl) (by omega) (Jam Tryz.underlying3) r1;exact⟨⟨x0,x1⟩,⟨(hc 0 (by omega)).trans c0,b0⟩,⟨_,(hc 1 (by omega)).trans c1,h1⟩⟩
theorem Jis{fuel:Nat}{cs:List Value}{x:DataW H × List MemPlace}(h:DataW.trod enc Tryz.prog w base spare held fuel 27 cs=some x):
 ∃(v0 v1 v2 v4:Value)(o:Az),cs= [v0,v1,v2,.bool o.hasSig,v4]∧Dn w v0 v1 v2 v4 o:=by
 obtain⟨hl,m,hf⟩:=Mh Tryz.underlying27 (by kernel_rfl) (by kernel_rfl) h;have hl5:cs.length=5:=hl;obtain⟨v0,_,c0,r0⟩:=hf 0 _ rfl;obtain⟨v1,_,c1,r1⟩:=hf 1 _ rfl;obtain⟨v2,_,c2,r2⟩:=hf 2 _ rfl;obtain⟨v3,_,c3,r3⟩:=hf 3 _ rfl;obtain⟨v4,_,c4,r4⟩:=hf 4 _ rfl;obtain⟨x0,h0⟩:=Om Tryz.underlying22 (by kernel_rfl) (by omega) Jkc r0;obtain⟨x1,h1⟩:=Om Tryz.underlying23 (by kernel_rfl) (by omega) Jku r1;obtain⟨x2,h2⟩:=Om Tryz.underlying24 (by kernel_rfl) (by omega) Je4 r2;obtain⟨x3,rfl⟩:=Jkj Tryz.underlying4 r3;obtain⟨x4,h4⟩:=Om Tryz.underlying25 (by kernel_rfl) (by omega) (Jam Tryz.underlying3) r4
 match cs,hl5 with
 | [u0,u1,u2,u3,u4],_=>
   simp only[List.getElem?_cons_zero,List.getElem?_cons_succ,Option.some.injEq]at c0 c1 c2 c3 c4;subst c0 c1 c2 c3 c4;exact⟨_,_,_,_,⟨x0,x1,x2,x3,x4⟩,rfl,h0,h1,h2,h4⟩
end
end Go.Proofs.YteopgmieindojaaGreat
namespace Go.Proofs.YteopgmieindojaaGreat
open Go.RowKit
def u8v(x:UInt8):Value:= .int .u8 (x.toNat:Int)
theorem Jep:∀k v,leB (k+1) v=leB k v++ [UInt8.ofNat (v / 256 ^ k)]
 |0,v=>by simp[leB]
 |k+1,v=>by
  rw[leB,Jep k (v / 256),leB,Nat.div_div_eq_div_mul,Nat.pow_succ,Nat.mul_comm 256];rfl
theorem Has.of_owns{w:World}{base:Nat}{e:TypeId}{v:Value}{n:Nat}{l:List UInt8}(h:w.ownsRow base e 1 v n (l.map u8v)):
 ∃p c,v= .slice p n c∧n≤c∧c≤maxLen∧l.length=n∧Has w p l:=by
 have hl:l.length=n:=by have:=h.1;simpa using this
 rcases h.2 with⟨rfl,hn⟩|⟨g,cap,cur,rfl,_,hg,hnc,hcm,_,_⟩
 ·subst hn;have h0:l= []:=List.eq_nil_of_length_eq_zero hl;subst h0;exact⟨none,0,rfl,Af _,Ak _,rfl,Has.none_ _ _⟩
 ·refine⟨some ⟨g,0,none⟩,cap,rfl,hnc,hcm,hl,Has.of_plain fun i x hx=>?_⟩;have hi:i < n:=by have:=(Ab.1 hx).1;omega
  have hc:=h.cellAt i (by omega);rw[List.getElem?_map,hx]at hc;simpa[u8v]using hc
def Fe(l:List UInt8)(w:World)(e:Ending)(w':World):Prop:=
 ∃v,e= .returned v∧w'.ownsRow w.heap.size 5 1 v l.length (l.map u8v)∧Below w.heap.size w w'
theorem Tryz.infoU8:(Tryz.prog.info? 5).map (fun i=>(i.zero,i.size,i.bytes))=some (some (.int .u8 0),1,1):=by kernel_rfl
theorem Jom(q:Nat):Value.int .u8 ((q:Int) % 256)=u8v (UInt8.ofNat q):=by
 unfold u8v;rw[UInt8.toNat_ofNat',Int.natCast_emod];rfl
theorem Kv(l:List UInt8):∀u∈l.map u8v,u.oneCell'=true:=fun u hu=>by
 obtain⟨x,_,rfl⟩:=List.mem_map.1 hu;rfl
theorem Has.cells{w:World}{a:Addr}{l:List UInt8}(h:Has w (some a) l):∀j u,(l.map u8v)[j]?=some u→w.cell? (a.add j)=some u:=fun j u hu=>by
 rw[List.getElem?_map]at hu;obtain⟨x,hx,rfl⟩:=Option.map_eq_some_iff.1 hu;obtain⟨a',e,hc⟩:=h j x hx;cases e;exact hc
def Md(n:Nat)(l:List UInt8)(w:World)(e:Ending)(w':World):Prop:=
 ∃p c,e= .returned (.slice p n c)∧l.length=n∧n≤c∧c≤maxLen∧Has w' p l∧Below w.heap.size w w'
theorem Fe.toH{l:List UInt8}{w w':World}{e:Ending}(h:Fe l w e w'):Md l.length l w e w':=by
 obtain⟨v,rfl,ho,hb⟩:=h;obtain⟨p,c,rfl,h1,h2,h3,h4⟩:=Has.of_owns ho;exact⟨p,c,rfl,h3,h1,h2,h4,hb⟩
theorem Oo{w:World}{base:Nat}{e:TypeId}{v:Value}{n:Nat}{xs:List Value}(h:w.ownsRow base e 1 v n xs)(hn:0 < n):
 ∃g cap cur,v= .slice (some ⟨g,0,none⟩) n cap∧base≤g∧g < w.heap.size∧w.heap[g]?=some (.cells cur e (0,0))∧n≤cap∧cap≤maxLen∧cur.size=cap∧cur.toList.take n=xs:=by
 rcases h.2 with⟨_,h0⟩|⟨g,cap,cur,rfl,hb,hg,hnc,hcm,hcs,ht⟩
 ·omega
 ·exact⟨g,cap,cur,rfl,hb,(Ac.1 hg).1,hg,hnc,hcm,by simpa using hcs,by simpa using ht⟩
theorem Ed{w w':World}{base:Nat}{e:TypeId}{v:Value}{n:Nat}{xs:List Value}(h:w.ownsRow base e 1 v n xs)(hb:Below w.heap.size w w'):w'.ownsRow base e 1 v n xs:=
 h.kept (row:=none) ⟨hb.os,hb.tape,hb.output,hb.size,fun k hk _=>hb.block k hk⟩ (by cases hv:v.ownBlock<;>simp)
theorem Kk{w W w1:World}(hb:Below W.heap.size W w1)(h:W=w.drew):Below w.heap.size w w1:=by
 subst h;exact(Ag _ w).drew.trans hb
theorem Ax{w w':World}{a:Addr}{v:Value}(hb:Below w.heap.size w w')(h:w.cell? a=some v):w'.cell? a=some v:=(hb.cell (Ao w a h)).trans h
theorem Bq{B:Nat}{a w:World}(h:Below B a w)(n:Nat):Below B a (w.drewN n):=⟨h.os,h.tape,h.output,h.size,h.block⟩
def iv(n:Int):Value:= .int .i64 n
def Hh(l:List Nat):List Value:=l.map fun(n:Nat)=>iv (n:Int)
theorem Tryz.infoInt:(Tryz.prog.info? 3).map (fun i=>(i.zero,i.size,i.bytes))=some (some (.int .i64 0),1,8):=by kernel_rfl
theorem Jav(l:List Nat)(n:Nat):Hh l++ [Value.int .i64 (n:Int)]=Hh (l++ [n]):=by simp[Hh,iv]
def Uu(w:World)(p:Option Addr)(xs:List Int):Prop:=
 ∀i x,xs[i]?=some x→∃a,p=some a∧w.cell? (a.add i)=some (.int .i64 x)
theorem Uu.at_{w:World}{p:Option Addr}{xs:List Int}(h:Uu w p xs){i:Nat}(hi:i < xs.length):
 ∃b off x,p=some ⟨b,off,none⟩∧xs[i]?=some x∧w.cell? ⟨b,off+i,none⟩=some (.int .i64 x):=by
 obtain⟨⟨b,off,spot⟩,e,hc⟩:=h i xs[i] (Ae hi);have hs:spot=none:=by
  obtain⟨a0,e0,hc0⟩:=h 0 xs[0] (Ae (by omega));rw[e]at e0;cases e0;simpa[Addr.add]using World.cell?_spot hc0
 subst hs;refine⟨b,off,xs[i],e,Ae hi,?_⟩;have ha:(⟨b,off,none⟩:Addr).add i=⟨b,off+i,none⟩:=by unfold Addr.add;split<;>simp_all
 rwa [ha]at hc
theorem Cm{w:World}{b c:Nat}{e:TypeId}{s n:Nat}{v:Value}{xs:List Value}(h:w.ownsRow b e s v n xs)(hc:c≤b):w.ownsRow c e s v n xs:=by
 refine⟨h.1,?_⟩;rcases h.2 with h0|⟨g,cap,cur,hv,hb,rest⟩
 ·exact .inl h0
 ·exact .inr ⟨g,cap,cur,hv,by omega,rest⟩
theorem Jc4{w:World}{p:Option Addr}{l:List UInt8}(h:Has w p l){n cap:Nat}(hl:l.length=n):(convert 31 9 (.slice p n cap)).run Tryz.prog w= .ok (.string (str l)) w:=
 Jn1 w _ _ _ Tryz.underlying31 Tryz.underlying5 Tryz.underlying9 h n cap hl
abbrev Pe (nm:ByteArray) (ty fl al en li sz:Int) (vd vr:Value):Value:= .agg #[.string nm,.int .i64 ty,.int .i64 fl,.int .i64 al,.int .i64 en,.int .i64 li,.int .i64 sz,vd,vr]
def hasF(fl k:Int):Bool:=decide (0≤fl)&&((fl / k).tmod 2==1)
theorem Kc(nm:ByteArray)(ty fl al en li sz:Int)(vd vr:Value)(k:Int)(w:World)(hk:0 < k)(hk2:k≤2097152)(hf: -9223372036854775808≤fl∧fl≤9223372036854775807):
 Calls Tryz.prog 31 #[Pe nm ty fl al en li sz vd vr,.int .i64 k] w fun e w'=>e= .returned (.bool (hasF fl k))∧Below w.heap.size w w':=by
 have hb:=(Ag _ w).alloc (Af _) (.cells #[.string nm,.int .i64 ty,.int .i64 fl,.int .i64 al,.int .i64 en,.int .i64 li,.int .i64 sz,vd,vr] 89);by_cases h0:0≤fl
 ·have HR:Hid (hasF fl k=((fl / k).tmod 2==1)):=Aa (by simp[hasF,h0]);go_enter Tryz.func31,Tryz.ntmps31;go_wp2_with fail
  go_ret;exact⟨by rw[HR.out];rfl,hb⟩
 ·have HR:Hid (hasF fl k=false):=Aa (by simp[hasF,h0]);go_enter Tryz.func31,Tryz.ntmps31;go_wp2_with fail
  go_ret;exact⟨by rw[HR.out];rfl,hb⟩
def My:List Int:= [1,2,4,16,32,128,512,2097152]
def Dj(n l:Int):Int:=if hasF n l=true then n - l else n
def flagsB(n:Int):Bool:=My.foldl Dj n==0
theorem Jl3(k:Nat)(h:k < 8):∃l,My[k]?=some l∧0 < l∧l≤2097152:=by
 match k,h with
 |0,_=>exact⟨1,rfl,by omega,by omega⟩
 |1,_=>exact⟨2,rfl,by omega,by omega⟩
 |2,_=>exact⟨4,rfl,by omega,by omega⟩
 |3,_=>exact⟨16,rfl,by omega,by omega⟩
 |4,_=>exact⟨32,rfl,by omega,by omega⟩
 |5,_=>exact⟨128,rfl,by omega,by omega⟩
 |6,_=>exact⟨512,rfl,by omega,by omega⟩
 |7,_=>exact⟨2097152,rfl,by omega,by omega⟩
theorem Jjv{n l:Int}{k:Nat}(h:My[k]?=some l):(My.take (k+1)).foldl Dj n=Dj ((My.take k).foldl Dj n) l:=by
 rw[List.take_add_one,h];simp
theorem Jjr(n:Int)(w:World)(hn: -9223372036854775808≤n∧n≤9223372036854775807):
 Calls Tryz.prog 167 #[.int .i64 n] w fun e w'=>e= .returned (.bool (flagsB n))∧Below w.heap.size w w':=by
 have hb:=(Ag _ w).alloc (Af _) (.cells #[.int .i64 1,.int .i64 2,.int .i64 4,.int .i64 16,.int .i64 32,.int .i64 128,.int .i64 512,.int .i64 2097152] 3);have hcl:∀(k:Nat)(l:Int),My[k]?=some l→(w.alloc (.cells #[.int .i64 1,.int .i64 2,.int .i64 4,.int .i64 16,.int .i64 32,.int .i64 128,.int .i64 512,.int .i64 2097152] 3)).cell? ⟨w.heap.size,k,none⟩=some (.int .i64 l):=fun k l hl=>by
  rw[Am _ w.heap.size k _ 3 (0,0) (Ah w _)]
  match k,hl with
  |0,hl=>cases hl;rfl
  |1,hl=>cases hl;rfl
  |2,hl=>cases hl;rfl
  |3,hl=>cases hl;rfl
  |4,hl=>cases hl;rfl
  |5,hl=>cases hl;rfl
  |6,hl=>cases hl;rfl
  |7,hl=>cases hl;rfl
 have HC:=Aa hcl;have HN:=Aa hn;clear hcl hn;go_enter Tryz.func167,Tryz.ntmps167;go_wp2_with fail
 generalize w.alloc (.cells #[.int .i64 1,.int .i64 2,.int .i64 4,.int .i64 16,.int .i64 32,.int .i64 128,.int .i64 512,.int .i64 2097152] 3)=w1 at*;generalize hg:w.heap.size=g at*;go_loop [0,4] (fun r0 r4=>∃(k:Nat)(m:Int),k≤8∧r4= .int .i64 (k:Int)∧r0= .int .i64 m∧m=(My.take k).foldl Dj n∧ -9223372036854775808≤m∧m≤9223372036854775807) (fun _ r4=>8 - (intOf r4).toNat)
 case atStart=>exact⟨0,n,Ak _,rfl,rfl,rfl,HN.out.1,HN.out.2⟩
 case round=>
  obtain⟨k,m,hk,rfl,rfl,hm,hm0,hm1⟩:=hrel;have HM:=Aa hm;clear hm;by_cases hlt:k < 8
  ·obtain⟨l,hl,hl0,hl1⟩:=Jl3 k hlt;have hc:=HC.out k l hl;have HST:=Aa (Jjv (n:=n) hl);have hI:(k:Int) < 8:=by omega
   have hI0:(0:Int)≤(k:Int):=by omega
   have hlne:¬l=0:=by omega
   clear hl;by_cases h0:0≤m
   ·cases hq:((m / l).tmod 2==1)with
    |true=>
     have HF:Hid (Dj m l=m - l):=Aa (by unfold Dj hasF;rw[hq];simp[h0]);have hw:IntKind.i64.wrap (m - l)=m - l:=Al _ (by omega);go_wp2_with fail
     go_round
     case rel=>exact⟨k+1,m - l,hlt,by go_num,rfl,by rw[HST.out,←HM.out,HF.out],by omega,by omega⟩
     case measure=>simp[intOf];omega
    |false=>
     have HF:Hid (Dj m l=m):=Aa (by unfold Dj hasF;rw[hq];simp);go_wp2_with fail
     go_round
     case rel=>exact⟨k+1,m,hlt,by go_num,rfl,by rw[HST.out,←HM.out,HF.out],by omega,by omega⟩
     case measure=>simp[intOf];omega
   ·have HF:Hid (Dj m l=m):=Aa (by unfold Dj hasF;simp[h0]);go_wp2_with fail
    go_round
    case rel=>exact⟨k+1,m,hlt,by go_num,rfl,by rw[HST.out,←HM.out,HF.out],by omega,by omega⟩
    case measure=>simp[intOf];omega
  ·have hI:¬(k:Int) < 8:=by omega
   have HR:Hid (flagsB n=(m==0)):=Aa (by
    rw[HM.out];unfold flagsB
    rw[List.take_of_length_le (by simp[My];omega)])
   subst hg;go_wp2_with fail
   go_ret;exact⟨by rw[HR.out];rfl,hb⟩
def alignB(n:Int):Bool:=(List.range 13).any fun i=>n==2 ^ i
theorem Tt:∀j,j < 13→1≤(2:Int) ^ j∧(2:Int) ^ j≤4096∧((2:Int) ^ j < 4096→j < 12):=by decide
theorem Tc(n:Int):alignB n=true ↔∃i,i < 13∧n=2 ^ i:=by
 unfold alignB;rw[List.any_eq_true];constructor
 ·rintro⟨i,h1,h2⟩;exact⟨i,List.mem_range.1 h1,by simpa using h2⟩
 ·rintro⟨i,h1,h2⟩;exact⟨i,List.mem_range.2 h1,by simpa using h2⟩
theorem Jmn{i j:Nat}(h:i≤j):(2:Int) ^ i≤2 ^ j:=by
 have:=Nat.pow_le_pow_right (n:=2) (by omega) h
 exact_mod_cast this
theorem Jat{n:Int}{j:Nat}(hj:j < 13)(hlow:∀i,i < j→(2:Int) ^ i < n)(hend:n≤2 ^ j∨(4096:Int)≤2 ^ j):((2:Int) ^ j==n)=alignB n:=by
 rw[Bool.eq_iff_iff,beq_iff_eq,Tc];constructor
 ·intro h;exact⟨j,hj,h.symm⟩
 ·rintro⟨i,hi,rfl⟩;have hji:j≤i:=by
   by_cases h:j≤i
   ·exact h
   ·have:=hlow i (by omega);omega
  have h1:=Jmn hji;have h2:=(Tt i hi).2.1;omega
theorem Jje(n:Int)(w:World):Calls Tryz.prog 168 #[.int .i64 n] w fun e w'=>e= .returned (.bool (alignB n))∧w=w':=by
 go_enter Tryz.func168,Tryz.ntmps168;go_wp2_with fail
 go_loop [3] (fun r3=>∃(j:Nat)(p:Int),j < 13∧r3= .int .i64 p∧p=2 ^ j∧1≤p∧p≤4096∧∀i,i < j→(2:Int) ^ i < n) (fun r3=>(4096 - intOf r3).toNat)
 case atStart=>exact⟨0,1,by omega,rfl,rfl,by omega,by omega,fun i h=>absurd h (by omega)⟩
 case round=>
  obtain⟨j,p,hj,rfl,hp,hp1,hp2,hlow⟩:=hrel;have HP:=Aa hp;have HL:=Aa hlow;clear hp hlow;by_cases h1:p < n
  ·by_cases h2:p < 4096
   ·have hj12:j < 12:=(Tt j hj).2.2 (by have:=HP.out;omega);have hw:IntKind.i64.wrap (2*p)=2*p:=Al _ (by omega);have hnext:(2:Int)*p=2 ^ (j+1):=by rw[HP.out,Int.pow_succ];omega
    have HX:=Aa hnext;have hb:=Tt (j+1) (by omega);rw[←hnext]at hb;have HB:=Aa hb;clear hnext hb;go_wp2_with fail
    go_round
    case rel=>
     refine⟨j+1,2*p,by omega,rfl,HX.out,HB.out.1,HB.out.2.1,fun i hi=>?_⟩;by_cases hij:i < j
     ·exact HL.out i hij
     ·obtain rfl:i=j:=by omega
      rw[←HP.out];exact h1
    case measure=>simp[intOf];omega
   ·have HE:=Aa (Jat hj HL.out (.inr (by rw[←HP.out];omega)));rw[←HP.out]at HE;go_wp2_with fail
    go_ret;exact⟨by rw[←HE.out];rfl,rfl⟩
  ·have HE:=Aa (Jat hj HL.out (.inl (by rw[←HP.out];omega)));rw[←HP.out]at HE;go_wp2_with fail
   go_ret;exact⟨by rw[←HE.out];rfl,rfl⟩
end Go.Proofs.YteopgmieindojaaGreat
