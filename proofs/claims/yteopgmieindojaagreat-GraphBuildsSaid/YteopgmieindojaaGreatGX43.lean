/- Parts of a proof. -/
import Derived.Test.YteopgmieindojaaGreatGX13
import Derived.Test.YteopgmieindojaaGreatGX14
import Derived.Test.YteopgmieindojaaGreatGX16
import Derived.Test.YteopgmieindojaaGreatGX42
import Derived.Test.YteopgmieindojaaGreatGX01
import Derived.BigQuiet
import Derived.OwnWalk
set_option maxRecDepth 1000000
set_option maxHeartbeats 8000000
namespace Go.Proofs.YteopgmieindojaaGreat
open Go.RowKit
theorem Jc0{α:Type}{k j:Nat}{f:α→List Value}(hk:∀x,(f x).length=k)(hj:j < k){u:Value}{y z:α}(hz:f z=(f y).set j u):∀(xs:List α)(i:Nat),xs[i]?=some y→(xs.set i z).flatMap f=(xs.flatMap f).set (i*k+j) u
 | [],i,h=>by simp at h
 |x::xs,0,h=>by
  cases h;rw[List.set_cons_zero,List.flatMap_cons,List.flatMap_cons,hz,Nat.zero_mul,Nat.zero_add,List.set_append_left _ _ (by rw[hk];exact hj)]
 |x::xs,i+1,h=>by
  rw[List.set_cons_succ,List.flatMap_cons,List.flatMap_cons,List.set_append_right _ _ (by rw[hk,Nat.add_mul];omega),hk,Jc0 hk hj hz xs i h];congr 2;rw[Nat.add_mul];omega
theorem Jms{α:Type}{xs:List α}{i:Nat}{x:α}(h:xs[i]?=some x):xs.set i x=xs:=by
 apply List.ext_getElem?;intro j;rw[List.getElem?_set];by_cases hj:i=j
 ·subst hj;rw[if_pos rfl,if_pos (Ab.1 h).1,h]
 ·rw[if_neg hj]
theorem Jlv{w w':World}{B:Nat}{T:TypeId}{s n g c:Nat}{xs:List Value}(h:w.ownsRow B T s (.slice (some ⟨g,0,none⟩) n c) n xs)(e:w'.heap[g]?=w.heap[g]?):w'.ownsRow B T s (.slice (some ⟨g,0,none⟩) n c) n xs:=by
 refine⟨h.1,?_⟩;rcases h.2 with⟨h',_⟩|⟨g',cap',cur,h',hb,hg,h3,h4,h5,h6⟩
 ·simp at h'
 ·simp only[Value.slice.injEq,Option.some.injEq,Addr.mk.injEq,and_true,true_and]at h';obtain⟨rfl,rfl⟩:=h';exact .inr ⟨g,c,cur,rfl,hb,by rw[e];exact hg,h3,h4,h5,h6⟩
theorem Zy{l:List Az}{D:List (List Bool)}(hsg:Gi l)(hok:∀o∈l,OkD o)(hl:l.length≤10):(Bs l D).length≤1000000000:=by
 have h:=Nd (D:=D) hsg hok l.length 0;have e:Bo Az.secs l l.length 0=Cl l:=by
  unfold Bo Cl;rw[List.getElem?_eq_none (Af _)];simp
 rw[e,Ix,List.length_map]at h;have h2:(l.length+1)*16384000≤11*16384000:=Nat.mul_le_mul_right _ (by omega);omega
theorem Jbm{l:List Az}{D:List (List Bool)}(hsg:Gi l):∀y∈nodesOf l D (Cl l),0≤y.pos∧0≤y.size∧y.pos+y.size≤2147483647:=fun y hy=>by
 obtain⟨x,hx,p,hp,rfl⟩:=Mg hy;obtain⟨_,o,h1,h2⟩:=Gh.1 (show(x.1,x.2.1,x.2.2)∈_ from hx);have hG:=hsg o (Ad h1) x.2.2 (Ad h2);obtain⟨j,hj⟩:=Av hp;obtain⟨_,hpc⟩:=Jaq hj;rw[hpc]at hj;obtain⟨_,_,q3,_⟩:=Jm2 hG.facts hj;have:=hG.facts.1.2;show 0≤p.at_∧0≤p.size∧p.at_+p.size≤2147483647;omega
structure BdC(w4:World)(l:List Az)(defs:List Bb)(p q0 q1:Option Addr)(g4 g6 c0 c1:Nat):Prop where
 objs:Bg 5 Cg w4 p l
 tab:w4.heap[g6]?=some (.cells #[.slice q0 (dropsOf l).length c0,.slice q1 defs.length c1] 54 (0,0))
 zero:w4.heap[g4]?=some (.cells zG 77 (0,0))
 drop:Er w4 q0 l (dropsOf l)
 dfs:Bg 3 Dg w4 q1 defs
 ok:∀o∈l,OkD o
 sg:Gi l
 lc:l.length≤10
 tabok:Oe l defs
structure BdS(w4:World)(l:List Az)(g9:Nat)(pn:Option Addr)(cn i:Nat)(w:World)(ns:List Bp):Prop where
 below:Below w4.heap.size w4 w
 box:w.heap[g9]?=some (.cells #[.slice pn (Bs l (dropsOf l)).length cn,.int .i64 0,.int .i64 0,.slice none 0 0] 77 (0,0))
 hg9:w4.heap.size≤g9
 tab:w.ownsRow w4.heap.size 86 14 (.slice pn (Bs l (dropsOf l)).length cn) (Bs l (dropsOf l)).length (ns.flatMap Bp.cells)
 ok:∀x∈ns,x.ok w4.heap.size w
 map:ns.map Bp.x=Gt l (dropsOf l) i 0
 nil:∀j x,i≤j→ns[j]?=some x→x.e= .slice none 0 0
 err:Bw (((Bs l (dropsOf l)).take i).flatMap fun q=>De l (dropsOf l) q.1)=0
def Bp.put(x:Bp)(es:List Et)(v:Value):Bp:=⟨{x.x with edges:=es},x.d,v⟩
structure BdJ(w4 wi:World)(l:List Az)(pn:Option Addr)(cn i:Nat)(ns:List Bp)(x:Bp)(q:Px)(k:Nat)(w:World)(pe:Option Addr)(ce:Nat):Prop where
 fr:FrT w4.heap.size [86] wi w
 tab:w.ownsRow w4.heap.size 86 14 (.slice pn (Bs l (dropsOf l)).length cn) (Bs l (dropsOf l)).length ((ns.set i (x.put ((Da l (dropsOf l) q.1).take k) (.slice pe k ce))).flatMap Bp.cells)
 row:w.ownsRow wi.heap.size 92 5 (.slice pe k ce) k (((Da l (dropsOf l) q.1).take k).flatMap Il)
 err:Bw ((De l (dropsOf l) q.1).take k)=0
theorem BdS.node{w4:World}{l:List Az}{g9:Nat}{pn:Option Addr}{cn i:Nat}{w:World}{ns:List Bp}(S:BdS w4 l g9 pn cn i w ns){q:Px}(hq:(Bs l (dropsOf l))[i]?=some q):∃x,ns[i]?=some x∧x.e= .slice none 0 0∧x.x={mkN l (dropsOf l) q.1 q.2 with edges:= []}:=by
 have hm:=congrArg (fun z=>z[i]?) S.map;simp only[List.getElem?_map]at hm;rw[Jcb hq]at hm;cases hx:ns[i]? with
 |none=>rw[hx]at hm;simp at hm
 |some x=>
  rw[hx]at hm;simp only[Option.map_some,Option.some.injEq]at hm;refine⟨x,rfl,S.nil i x (Af _) hx,?_⟩;rw[hm];unfold Qs;simp
theorem BdS.len{w4:World}{l:List Az}{g9:Nat}{pn:Option Addr}{cn i:Nat}{w:World}{ns:List Bp}(S:BdS w4 l g9 pn cn i w ns):ns.length=(Bs l (dropsOf l)).length:=by
 have h:=congrArg List.length S.map;rw[List.length_map,Jdl]at h;exact h
theorem BdS.begin{w4:World}{l:List Az}{g9:Nat}{pn:Option Addr}{cn i:Nat}{w:World}{ns:List Bp}(S:BdS w4 l g9 pn cn i w ns){q:Px}{x:Bp}(hx:ns[i]?=some x)(he:x.e= .slice none 0 0)(hxe:x.x={mkN l (dropsOf l) q.1 q.2 with edges:= []}):BdJ w4 w l pn cn i ns x q 0 w none 0:=by
 refine⟨FrT.refl _ _ _,?_,?_,rfl⟩
 ·have e:x.put ((Da l (dropsOf l) q.1).take 0) (.slice none 0 0)=x:=by
   unfold Bp.put;rw[List.take_zero,←he];have:({x.x with edges:= []}:Ce)=x.x:=by rw[hxe]
   rw[this]
  rw[e,Jms hx];exact S.tab
 ·simpa using Aq w w.heap.size 92 5
theorem BdJ.step{w4 wi:World}{l:List Az}{cn i gn:Nat}{ns:List Bp}{x:Bp}{q:Px}{k:Nat}{w w1:World}{pe:Option Addr}{ce g3 cap3:Nat}{e:Et}{cur:Array Value}(J:BdJ w4 wi l (some ⟨gn,0,none⟩) cn i ns x q k w pe ce)(hx:ns[i]?=some x)
 (he:(Da l (dropsOf l) q.1)[k]?=some e)(hc:(De l (dropsOf l) q.1)[k]?=some 0)
 (ho:w1.ownsRow wi.heap.size 92 5 (.slice (some ⟨g3,0,none⟩) (k+1) cap3) (k+1) (((Da l (dropsOf l) q.1).take k++ [e]).flatMap Il))(hf:FrT w4.heap.size [86] wi w1)(hN:w.heap[gn]?=some (.cells cur 86 (0,0)))(hN1:w1.heap[gn]?=some (.cells cur 86 (0,0))):
 BdJ w4 wi l (some ⟨gn,0,none⟩) cn i ns x q (k+1) (w1.setCell ⟨gn,i*14+10,none⟩ (.slice (some ⟨g3,0,none⟩) (k+1) cap3)) (some ⟨g3,0,none⟩) cap3:=by
 have hgn:w4.heap.size≤gn:=(J.tab.lt gn rfl).1;have hset:FrT w4.heap.size [86] w1 (w1.setCell ⟨gn,i*14+10,none⟩ (.slice (some ⟨g3,0,none⟩) (k+1) cap3)):=FrT.set hN1 (by simp) hgn _;have htk:(Da l (dropsOf l) q.1).take (k+1)=(Da l (dropsOf l) q.1).take k++ [e]:=Hm he;refine⟨hf.trans hset,?_,?_,Jno J.err hc⟩
 ·have h1:=Jlv J.tab (hN1.trans hN.symm);have h2:=(h1.stored (i*14+10) (.slice (some ⟨g3,0,none⟩) (k+1) cap3)).1;have hxs:(ns.set i (x.put ((Da l (dropsOf l) q.1).take k) (.slice pe k ce)))[i]?=some (x.put ((Da l (dropsOf l) q.1).take k) (.slice pe k ce)):=by
   rw[List.getElem?_set,if_pos rfl,if_pos (Ab.1 hx).1]
  rw[←Jc0 (k:=14) (j:=10) (f:=Bp.cells) (u:= .slice (some ⟨g3,0,none⟩) (k+1) cap3) (y:=x.put ((Da l (dropsOf l) q.1).take k) (.slice pe k ce)) (z:=x.put ((Da l (dropsOf l) q.1).take (k+1)) (.slice (some ⟨g3,0,none⟩) (k+1) cap3)) (fun _=>rfl) (by omega) rfl _ i hxs,List.set_set]at h2;exact h2
 ·rw[htk];exact hset.owns ho (by decide)
theorem BdJ.finish{w4 wi:World}{l:List Az}{defs:List Bb}{p q0 q1 pn pe:Option Addr}{g4 g6 c0 c1 g9 cn i k ce:Nat}{ns:List Bp}{x:Bp}{q:Px}{w:World}(C:BdC w4 l defs p q0 q1 g4 g6 c0 c1)(S:BdS w4 l g9 pn cn i wi ns)(hq:(Bs l (dropsOf l))[i]?=some q)(hx:ns[i]?=some x)(hxe:x.x={mkN l (dropsOf l) q.1 q.2 with edges:= []})
 (J:BdJ w4 wi l pn cn i ns x q k w pe ce)(hk:(Da l (dropsOf l) q.1).length=k):BdS w4 l g9 pn cn (i+1) w (ns.set i (x.put (Da l (dropsOf l) q.1) (.slice pe k ce))):=by
 have hs:=S.below.size;have htk:(Da l (dropsOf l) q.1).take k=Da l (dropsOf l) q.1:=List.take_of_length_le (by omega);have ht:=J.tab;have hr:=J.row;rw[htk]at ht hr;obtain⟨o,h1,h2,_⟩:=Jeq (Ad hq);have hebd:=Jck (D:=dropsOf l) C.objs C.sg C.ok (by have:=C.lc;omega) h1 h2;refine⟨S.below.trans ((J.fr.below hs)),J.fr.heap S.box (by decide),S.hg9,ht,fun y hy=>?_,?_,fun j y hj hy=>?_,?_⟩
 ·rcases List.mem_or_eq_of_mem_set hy with hy|rfl
  ·exact(S.ok y hy).fr J.fr (by decide) (by decide)
  ·obtain⟨o1,o2,o3,o4⟩:=S.ok x (Ad hx);refine⟨J.fr.owns o1 (by decide),?_,hebd,o4⟩;have:=Cm hr hs;rw[←hk]at this⊢;exact this
 ·rw[List.map_set,S.map];have e:Bp.x (x.put (Da l (dropsOf l) q.1) (.slice pe k ce))={mkN l (dropsOf l) q.1 q.2 with edges:=(Da l (dropsOf l) q.1).take k}:=by
   rw[htk];unfold Bp.put;rw[hxe]
  rw[e,Jrc hq,Jgz hq (by omega)]
 ·rw[List.getElem?_set,if_neg (by omega)]at hy;exact S.nil j y (by omega) hy
 ·refine Jcm hq S.err ?_;have he:=J.err
  rwa [List.take_of_length_le (by unfold De Da at*;rw[List.length_map]at*;omega)]at he
theorem BdS.skip{w4:World}{l:List Az}{g9:Nat}{pn:Option Addr}{cn i:Nat}{w w':World}{ns:List Bp}(S:BdS w4 l g9 pn cn i w ns){q:Px}(hq:(Bs l (dropsOf l))[i]?=some q)(h0:Mk q.1.2.2= [])(hb:Below w.heap.size w w'):BdS w4 l g9 pn cn (i+1) w' ns:=by
 have hf:FrT w4.heap.size [] w w':=FrT.of_below hb;refine⟨S.below.trans (hb.mono S.below.size),hf.heap S.box (by simp),S.hg9,hf.owns S.tab (by simp),fun x hx=>(S.ok x hx).below hb,?_,fun j x hj hx=>S.nil j x (by omega) hx,?_⟩
 ·rw[S.map];exact Jgz hq (by unfold Da;rw[h0];simp)
 ·exact Jcm hq S.err (by unfold De;rw[h0];rfl)
theorem BdS.move{w4:World}{l:List Az}{g9:Nat}{pn:Option Addr}{cn i:Nat}{w w':World}{ns:List Bp}(S:BdS w4 l g9 pn cn i w ns)(hb:Below w.heap.size w w'):BdS w4 l g9 pn cn i w' ns:=by
 have hf:FrT w4.heap.size [] w w':=FrT.of_below hb;exact⟨S.below.trans (hb.mono S.below.size),hf.heap S.box (by simp),S.hg9,hf.owns S.tab (by simp),fun x hx=>(S.ok x hx).below hb,S.map,S.nil,S.err⟩
theorem BdJ.move{w4 wi:World}{l:List Az}{pn pe:Option Addr}{cn i k ce:Nat}{ns:List Bp}{x:Bp}{q:Px}{w w':World}(J:BdJ w4 wi l pn cn i ns x q k w pe ce)(hb:Below w.heap.size w w'):BdJ w4 wi l pn cn i ns x q k w' pe ce:=by
 have hf:FrT w4.heap.size [] w w':=FrT.of_below hb;exact⟨J.fr.trans (hf.mono (by simp)),hf.owns J.tab (by simp),hf.owns J.row (by simp),J.err⟩
theorem Jkv{w:World}{N g cn n:Nat}{ns:List Bp}{l:List Az}{D:List (List Bool)}(h:w.ownsRow N 86 14 (.slice (some ⟨g,0,none⟩) n cn) n (ns.flatMap Bp.cells))(hn:ns.length=n)(hm:∀(j:Nat)(y:Ce),(nodesOf l D (Cl l))[j]?=some y→∃v:Bp,ns[j]?=some v∧v.x.obj=y.obj∧v.x.sec=y.sec∧v.x.pos=y.pos∧v.x.name=y.name∧v.x.type=y.type∧v.x.flags=y.flags∧v.x.align=y.align∧v.x.ent=y.ent∧v.x.size=y.size∧v.x.unique=y.unique∧v.x.group=y.group∧v.x.link=y.link∧(∃p m c,v.d= .slice p m c)∧∃p m c,v.e= .slice p m c):Bg 14 ENC w (some ⟨g,0,none⟩) (nodesOf l D (Cl l)):=fun j y hy=>by
 obtain⟨v,hv,e0,e1,e2,e3,e4,e5,e6,e7,e8,e11,e12,e13,⟨p9,n9,c9,hd⟩,p10,n10,c10,hed⟩:=hm j y hy;refine⟨g,0,rfl,p9,p10,n9,c9,n10,c10,?_⟩;have hc:∀r u,v.cells[r]?=some u→w.cell? ⟨g,0+j*14+r,none⟩=some u:=fun r u hr=>by
  have hr14:r < 14:=(Ab.1 hr).1;have hjl:=(Ab.1 hv).1;rw[Nat.zero_add,h.cellAt _ (by omega)];exact Ks (k:=14) (fun _=>rfl) ns j v r u hv hr
 unfold Bp.cells at hc;rw[e0,e1,e2,e3,e4,e5,e6,e7,e8,e11,e12,e13,hd,hed]at hc;exact⟨hc 0 _ rfl,hc 1 _ rfl,hc 2 _ rfl,hc 3 _ rfl,hc 4 _ rfl,hc 5 _ rfl,hc 6 _ rfl,hc 7 _ rfl,hc 8 _ rfl,hc 9 _ rfl,hc 10 _ rfl,hc 11 _ rfl,hc 12 _ rfl,hc 13 _ rfl⟩
theorem BdJ.enc{w4 wi:World}{l:List Az}{pe:Option Addr}{g9 gn cn i k ce:Nat}{ns:List Bp}{x:Bp}{q:Px}{w:World}(S:BdS w4 l g9 (some ⟨gn,0,none⟩) cn i wi ns)(hq:(Bs l (dropsOf l))[i]?=some q)(hx:ns[i]?=some x)(hxe:x.x={mkN l (dropsOf l) q.1 q.2 with edges:= []})(J:BdJ w4 wi l (some ⟨gn,0,none⟩) cn i ns x q k w pe ce):Bg 14 ENC w (some ⟨gn,0,none⟩) (nodesOf l (dropsOf l) (Cl l)):=by
 refine Jkv J.tab (by rw[List.length_set];exact S.len) fun j y hy=>?_;rw[Ix,List.getElem?_map]at hy;cases hq':(Bs l (dropsOf l))[j]? with
 |none=>rw[hq']at hy;cases hy
 |some q'=>
  rw[hq']at hy;cases hy;by_cases hj:i=j
  ·subst hj;rw[hq]at hq';cases hq';obtain⟨pd,cd,hd,_⟩:=Bl (S.ok x (Ad hx)).1;refine⟨x.put ((Da l (dropsOf l) q.1).take k) (.slice pe k ce),by rw[List.getElem?_set,if_pos rfl,if_pos (Ab.1 hx).1],?_⟩;unfold Bp.put;rw[hxe];exact⟨rfl,rfl,rfl,rfl,rfl,rfl,rfl,rfl,rfl,rfl,rfl,rfl,⟨pd,_,cd,hd⟩,⟨pe,k,ce,rfl⟩⟩
  ·have hm:=congrArg (fun z=>z[j]?) S.map;simp only[List.getElem?_map]at hm;rw[Jcb hq']at hm;cases hv:ns[j]? with
   |none=>rw[hv]at hm;simp at hm
   |some v=>
    rw[hv]at hm;simp only[Option.map_some,Option.some.injEq]at hm;obtain⟨o1,o2,_⟩:=S.ok v (Ad hv);obtain⟨pd,cd,hd,_⟩:=Bl o1;obtain⟨p2,ce2,he2,_⟩:=Bl o2;refine⟨v,by rw[List.getElem?_set,if_neg hj,hv],?_⟩;rw[hm]at hd he2⊢;exact⟨rfl,rfl,rfl,rfl,rfl,rfl,rfl,rfl,rfl,rfl,rfl,rfl,⟨pd,_,cd,hd⟩,⟨p2,_,ce2,he2⟩⟩
theorem BdJ.cell{w4 wi:World}{l:List Az}{pe:Option Addr}{gn cn i k ce:Nat}{ns:List Bp}{x:Bp}{q:Px}{w:World}(hx:ns[i]?=some x)(hn:ns.length=(Bs l (dropsOf l)).length)(J:BdJ w4 wi l (some ⟨gn,0,none⟩) cn i ns x q k w pe ce)(r:Nat)(u:Value)(hu:(x.put ((Da l (dropsOf l) q.1).take k) (.slice pe k ce)).cells[r]?=some u):w.cell? ⟨gn,i*14+r,none⟩=some u:=by
 have hr14:r < 14:=(Ab.1 hu).1;have hil:=(Ab.1 hx).1;rw[J.tab.cellAt _ (by omega)];exact Ks (k:=14) (fun _=>rfl) _ i _ r u (by rw[List.getElem?_set,if_pos rfl,if_pos hil]) hu
theorem Jdb{l:List Az}{D:List (List Bool)}{P:Cq}{t:Int × Int}(h:findB l D P=some t):0≤t.1:=by
 unfold findB at h;split at h
 ·cases h
 ·cases hs:(Ht l P.obj.toNat).secs[(P.sec - 1).toNat]? with
  |none=>rw[hs]at h;cases h
  |some s=>
   rw[hs]at h;simp only at h;unfold findPc at h;split at h
   ·cases h
   ·cases hp:(Ch D (P.obj.toNat,(P.sec - 1).toNat,s))[(inP (Ch D (P.obj.toNat,(P.sec - 1).toNat,s)) P.at_).toNat]? with
    |none=>rw[hp]at h;cases h
    |some q=>
     rw[hp]at h;cases h;show 0≤(Cv l D _ _:Int)+inP _ _;omega
def Hz(n:Nat):Code→Option Code
 | .region i o d=>if i=n then some (.region i o d)else none
 | .seq a b=>match Hz n a with
   |some c=>some c
   |none=>Hz n b
 | .block _ c=>Hz n c
 | .scope c=>Hz n c
 | .loop c=>Hz n c
 | .cond _ a b=>match Hz n a with
   |some c=>some c
   |none=>Hz n b
 |_=>none
def Jgy:Code→Option Nat
 | .region i _ _=>some i
 | .seq a _=>Jgy a
 |_=>none
def Lo(n:Nat):Code→Option Code
 | .seq a b=>if Jgy a=some n then some (.seq a b)else match Lo n a with
   |some c=>some c
   |none=>Lo n b
 | .region i o d=>if i=n then some (.region i o d)else none
 | .block _ c=>Lo n c
 | .scope c=>Lo n c
 | .loop c=>Lo n c
 | .cond _ a b=>match Lo n a with
   |some c=>some c
   |none=>Lo n b
 |_=>none
def Ay(R:List Value)(k:Nat):Value:=R.getD k undef
theorem Ra(R:List Value):R=(List.range R.length).map fun i=>R.getD i undef:=by
 apply List.ext_getElem?;intro i;rw[List.getElem?_map];by_cases h:i < R.length
 ·rw[List.getElem?_range h];show R[i]?=some (R.getD i undef);rw[List.getD_eq_getElem?_getD,Ae h];rfl
 ·rw[List.getElem?_eq_none (by omega),List.getElem?_eq_none (by simpa using h)];rfl
theorem Ba{next:Act→World→Prop}{Q:Exit→Act→World→Prop}{a:Act}{w:World}(h:next a w):Exit.then next Q .normal a w:=h
theorem Ou{Q:Exit→Act→World→Prop}{id:Nat}{a:Act}{w:World}(h:Q .normal a w):Exit.inBlock id Q .normal a w:=h
theorem Bi{w:World}{gx:Nat}{cs:Array Value}{T:TypeId}(hX:w.heap[gx]?=some (.cells cs T (0,0)))(j:Nat)(v:Value)(h:cs[j]?=some v):w.cell? ⟨gx,j,none⟩=some v:=(Am w gx j _ _ (0,0) hX).trans h
theorem Cr{w w':World}{gx:Nat}{o:Obj}(hb:Below w.heap.size w w')(hX:w.heap[gx]?=some o):w'.heap[gx]?=some o:=(hb.block gx (Ac.1 hX).1).trans hX
def onlyN(K:Act→World→Prop):Exit→Act→World→Prop
 | .normal,a,w=>K a w
 |_,_,_=>False
theorem Jo{P:Program}{c:Code}{Q:Exit→Act→World→Prop}{a:Act}{w:World}(h:c.wp P (onlyN (Q .normal)) a w):c.wp P Q a w:=
 wp_mono h fun e a w h=>by cases e<;>first|exact h|exact h.elim
noncomputable def Br(n:Nat):Code:=((Tryz.f29.body.bind (Hz n)).getD .skip)
noncomputable def Bt(n:Nat):Code:=((Tryz.f29.body.bind (Lo n)).getD .skip)
theorem Jpt:Bt 0= .seq (Br 0) (Bt 1):=by kernel_rfl
theorem Jq1:Bt 1= .seq (Br 1) (Bt 2):=by kernel_rfl
theorem Jqq:Bt 2= .seq (.seq (Br 2) (.cond (.tmp 31) (.seq (Br 3) .ret) .skip)) (Bt 4):=by kernel_rfl
theorem Jqu:Bt 4= .seq (Br 4) (Bt 5):=by kernel_rfl
theorem Jpp:Bt 5= .seq (Br 5) (Bt 6):=by kernel_rfl
theorem Jo3:Bt 6= .seq (.seq (Br 6) (.block 0 (.loop (Bt 7)))) (Bt 26):=by kernel_rfl
theorem Jqd:Bt 7= .seq (.seq (Br 7) (.cond (.tmp 42) .skip (.exit 0))) (.seq (.block 1 (Bt 9)) (Br 8)):=by kernel_rfl
theorem Jqm:Bt 9= .seq (Br 9) (Bt 10):=by kernel_rfl
theorem Jnn:Bt 10= .seq (.seq (Br 10) (.cond (.tmp 63) (.exit 1) .skip)) (Bt 11):=by kernel_rfl
theorem Jl0:Bt 11= .seq (Br 11) (Bt 12):=by kernel_rfl
theorem Jmq:Bt 12= .seq (Br 12) (.block 2 (.loop (Bt 13))):=by kernel_rfl
theorem Jl1:Bt 13= .seq (.seq (Br 13) (.cond (.tmp 85) .skip (.exit 2))) (.seq (.block 3 (Bt 15)) (Br 14)):=by kernel_rfl
theorem Jng:Bt 15= .seq (Br 15) (Bt 16):=by kernel_rfl
theorem Jn2:Bt 16= .seq (.seq (Br 16) (.cond (.tmp 105) (.seq (Br 17) .ret) .skip)) (Bt 18):=by kernel_rfl
theorem Jme:Bt 18= .seq (Br 18) (Bt 19):=by kernel_rfl
theorem Jn0:Bt 19= .seq (.seq (Br 19) (.cond (.tmp 128) (Bt 20) .skip)) (Br 25):=by kernel_rfl
theorem Jnb:Bt 20= .seq (Br 20) (Bt 21):=by kernel_rfl
theorem Jog:Bt 21= .seq (.seq (Br 21) (.cond (.tmp 136) (.seq (Br 22) .ret) .skip)) (Bt 23):=by kernel_rfl
theorem Jmg:Bt 23= .seq (Br 23) (Br 24):=by kernel_rfl
theorem Joa:Bt 26= .seq (Br 26) (Bt 27):=by kernel_rfl
theorem Jm7:Bt 27= .seq (.seq (Br 27) (.block 4 (.loop (Bt 28)))) (Bt 38):=by kernel_rfl
theorem Jnp:Bt 28= .seq (.seq (Br 28) (.cond (.tmp 160) .skip (.exit 4))) (.seq (.block 5 (Bt 30)) (Br 29)):=by kernel_rfl
theorem Jmc:Bt 30= .seq (Br 30) (Bt 31):=by kernel_rfl
theorem Jma:Bt 31= .seq (Br 31) (Bt 32):=by kernel_rfl
theorem Jnz:Bt 32= .seq (.seq (Br 32) (.cond (.tmp 192) (.exit 5) .skip)) (Bt 33):=by kernel_rfl
theorem Jna:Bt 33= .seq (Br 33) (Bt 34):=by kernel_rfl
theorem Jmh:Bt 34= .seq (Br 34) (.cond (.tmp 214) (Bt 35) .skip):=by kernel_rfl
theorem Joj:Bt 35= .seq (Br 35) (Bt 36):=by kernel_rfl
theorem Jok:Bt 36= .seq (Br 36) (Br 37):=by kernel_rfl
theorem Jm8:Bt 38= .seq (.seq (Br 38) (.cond (.tmp 220) (.seq (Br 39) .ret) .skip)) (Bt 40):=by kernel_rfl
theorem Jm9:Bt 40= .seq (Br 40) .ret:=by kernel_rfl
theorem Ex(R:List Value)(v0 v1 v2 v3 v4 v5 v6 v7 v8 v9 v10 v11 v12 v13 v14 v15 v16 v17 v18 v19 v20 v21 v22 v23 v24:Value)(k:Nat):(⟨(List.toArray (v0::v1::v2::v3::v4::v5::v6::v7::v8::v9::v10::v11::v12::v13::v14::v15::v16::v17::v18::v19::v20::v21::v22::v23::v24::R)), []⟩:Act).eval (.tmp (25+k))=Ay R k:=by
 show Array.getD _ _ _=R.getD k undef;rw[Array.getD_eq_getD_getElem?,List.getElem?_toArray,List.getD_eq_getElem?_getD,show 25+k=k+25 by omega];rfl
theorem Cu(R:List Value)(h:R.length=198):R= [Ay R 0,Ay R 1,Ay R 2,Ay R 3,Ay R 4,Ay R 5,Ay R 6,Ay R 7,Ay R 8,Ay R 9,Ay R 10,Ay R 11,Ay R 12,Ay R 13,Ay R 14,Ay R 15,Ay R 16,Ay R 17,Ay R 18,Ay R 19,Ay R 20,Ay R 21,Ay R 22,Ay R 23,Ay R 24,Ay R 25,Ay R 26,Ay R 27,Ay R 28,Ay R 29,Ay R 30,Ay R 31,Ay R 32,Ay R 33,Ay R 34,Ay R 35,Ay R 36,Ay R 37,Ay R 38,Ay R 39,Ay R 40,Ay R 41,Ay R 42,Ay R 43,Ay R 44,Ay R 45,Ay R 46,Ay R 47,Ay R 48,Ay R 49,Ay R 50,Ay R 51,Ay R 52,Ay R 53,Ay R 54,Ay R 55,Ay R 56,Ay R 57,Ay R 58,Ay R 59,Ay R 60,Ay R 61,Ay R 62,Ay R 63,Ay R 64,Ay R 65,Ay R 66,Ay R 67,Ay R 68,Ay R 69,Ay R 70,Ay R 71,Ay R 72,Ay R 73,Ay R 74,Ay R 75,Ay R 76,Ay R 77,Ay R 78,Ay R 79,Ay R 80,Ay R 81,Ay R 82,Ay R 83,Ay R 84,Ay R 85,Ay R 86,Ay R 87,Ay R 88,Ay R 89,Ay R 90,Ay R 91,Ay R 92,Ay R 93,Ay R 94,Ay R 95,Ay R 96,Ay R 97,Ay R 98,Ay R 99,Ay R 100,Ay R 101,Ay R 102,Ay R 103,Ay R 104,Ay R 105,Ay R 106,Ay R 107,Ay R 108,Ay R 109,Ay R 110,Ay R 111,Ay R 112,Ay R 113,Ay R 114,Ay R 115,Ay R 116,Ay R 117,Ay R 118,Ay R 119,Ay R 120,Ay R 121,Ay R 122,Ay R 123,Ay R 124,Ay R 125,Ay R 126,Ay R 127,Ay R 128,Ay R 129,Ay R 130,Ay R 131,Ay R 132,Ay R 133,Ay R 134,Ay R 135,Ay R 136,Ay R 137,Ay R 138,Ay R 139,Ay R 140,Ay R 141,Ay R 142,Ay R 143,Ay R 144,Ay R 145,Ay R 146,Ay R 147,Ay R 148,Ay R 149,Ay R 150,Ay R 151,Ay R 152,Ay R 153,Ay R 154,Ay R 155,Ay R 156,Ay R 157,Ay R 158,Ay R 159,Ay R 160,Ay R 161,Ay R 162,Ay R 163,Ay R 164,Ay R 165,Ay R 166,Ay R 167,Ay R 168,Ay R 169,Ay R 170,Ay R 171,Ay R 172,Ay R 173,Ay R 174,Ay R 175,Ay R 176,Ay R 177,Ay R 178,Ay R 179,Ay R 180,Ay R 181,Ay R 182,Ay R 183,Ay R 184,Ay R 185,Ay R 186,Ay R 187,Ay R 188,Ay R 189,Ay R 190,Ay R 191,Ay R 192,Ay R 193,Ay R 194,Ay R 195,Ay R 196,Ay R 197]:=by
 have e:=Ra R;rw[h]at e;exact e.trans (by kernel_rfl)
theorem Jo2{P:Program}{Q:Exit→Act→World→Prop}{w:World}{c:Code}{v0 v1 v2 v3 v4 v5 v6 v7 v8 v9 v10 v11 v12 v13 v14 v15 v16 v17 v18 v19 v20 v21 v22 v23 v24:Value}{R:List Value}(h:R.length=198)(k:∀R:List Value,R.length=198→c.wp P Q ⟨(List.toArray (v0::v1::v2::v3::v4::v5::v6::v7::v8::v9::v10::v11::v12::v13::v14::v15::v16::v17::v18::v19::v20::v21::v22::v23::v24::R)), []⟩ w):c.wp P Q ⟨(List.toArray (v0::v1::v2::v3::v4::v5::v6::v7::v8::v9::v10::v11::v12::v13::v14::v15::v16::v17::v18::v19::v20::v21::v22::v23::v24::R)), []⟩ w:=k R h
theorem bdrg0{w:World}{Q:Exit→Act→World→Prop}{v0 v1 v2 v3 v4 v5 v6 v7 v8 v9 v10 v11 v12 v13 v14 v15 v16 v17 v18 v19 v20 v21 v22 v23 v24:Value}{R:List Value}(hR:R.length=198)
 (hQ:∀(R':List Value),R'.length=198→Q .normal ⟨(List.toArray (v0::v1::v2::v3:: .pointer (some ⟨w.heap.size,0,none⟩):: .int .i64 0::v6::v7::v8::v9::v10::v11::v12::v13::v14::v15::v16::v17::v18::v19::v20::v21::v22::v23::v24::R')), []⟩ (w.alloc (.cells zG 77))):
 Code.wp Tryz.prog (Br 0) Q ⟨(List.toArray (v0::v1::v2::v3::v4::v5::v6::v7::v8::v9::v10::v11::v12::v13::v14::v15::v16::v17::v18::v19::v20::v21::v22::v23::v24::R)), []⟩ w:=by
 have HQ:=Aa hQ;clear hQ;rw[Cu R hR]
 conv=>arg 2;whnf
 go_wp2_with fail
 exact HQ.out _ rfl
theorem bdrg2{n:Int}{w:World}{Q:Exit→Act→World→Prop}{v0 v1 v2 v3 v4 v5 v6 v8 v9 v10 v11 v12 v13 v14 v15 v16 v17 v18 v19 v20 v21 v22 v23 v24:Value}{R:List Value}(hR:R.length=198)
 (hQ:∀(R':List Value),R'.length=198→Ay R' 6= .bool (n != 0)→Q .normal ⟨(List.toArray (v0::v1::v2::v3::v4::v5::v6:: .int .i64 n::v8::v9::v10::v11::v12::v13::v14::v15::v16::v17::v18::v19::v20::v21::v22::v23::v24::R')), []⟩ w):
 Code.wp Tryz.prog (Br 2) Q ⟨(List.toArray (v0::v1::v2::v3::v4::v5::v6:: .int .i64 n::v8::v9::v10::v11::v12::v13::v14::v15::v16::v17::v18::v19::v20::v21::v22::v23::v24::R)), []⟩ w:=by
 have HQ:=Aa hQ;clear hQ;rw[Cu R hR]
 conv=>arg 2;whnf
 go_wp2_with fail
 exact HQ.out _ rfl rfl
theorem bdrg3{g4:Nat}{n:Int}{w:World}{Q:Exit→Act→World→Prop}{v0 v1 v2 v3 v5 v6 v8 v9 v10 v11 v12 v13 v14 v15 v16 v17 v18 v19 v20 v21 v22 v23 v24:Value}{R:List Value}(hR:R.length=198)
 (hZ:w.heap[g4]?=some (.cells zG 77 (0,0)))
 (hQ:∀(R':List Value)(w':World),R'.length=198→w'.heap[g4]?=some (.cells zG 77 (0,0))→FrT g4 [77] w w'→Q .normal ⟨(List.toArray (v0::v1::v2::v3:: .pointer (some ⟨g4,0,none⟩):: .int .i64 n::v6:: .int .i64 n::v8::v9::v10::v11::v12::v13::v14::v15::v16::v17::v18::v19::v20::v21::v22::v23::v24::R')), []⟩ w'):
 Code.wp Tryz.prog (Br 3) Q ⟨(List.toArray (v0::v1::v2::v3:: .pointer (some ⟨g4,0,none⟩)::v5::v6:: .int .i64 n::v8::v9::v10::v11::v12::v13::v14::v15::v16::v17::v18::v19::v20::v21::v22::v23::v24::R)), []⟩ w:=by
 have HQ:=Aa hQ;clear hQ;rw[Cu R hR]
 conv=>arg 2;whnf
 obtain⟨z0,z1,z2,z3⟩:=Cp _ _ _ _ _ _ _ hZ;have f0:=Ap w g4 0 _ _ hZ;have f1:=Ap w g4 1 _ _ hZ;have f2:=Ap w g4 2 _ _ hZ;have f3:=Ap w g4 3 _ _ hZ;have HST:=Aa (Jl (.slice none 0 0) (.int .i64 0) (.int .i64 0) (.slice none 0 0) (Af g4) hZ);clear hZ;go_wp2_with fail
 exact HQ.out _ _ rfl HST.out.1 HST.out.2
theorem Jsa{g4:Nat}{n:Int}{w:World}{Q:Exit→Act→World→Prop}{v0 v1 v2 v3 v5 v6 v7 v8 v9 v10 v11 v12 v13 v14 v16 v17 v18 v19 v20 v21 v22 v23 v24:Value}{R:List Value}(hR:R.length=198)
 (hZ:w.heap[g4]?=some (.cells zG 77 (0,0)))
 (hQ:∀(R':List Value)(w':World),R'.length=198→w'.heap[g4]?=some (.cells zG 77 (0,0))→FrT g4 [77] w w'→Q .normal ⟨(List.toArray (v0::v1::v2::v3:: .pointer (some ⟨g4,0,none⟩):: .int .i64 n::v6::v7::v8::v9::v10::v11::v12::v13::v14:: .int .i64 n::v16::v17::v18::v19::v20::v21::v22::v23::v24::R')), []⟩ w'):
 Code.wp Tryz.prog (Br 17) Q ⟨(List.toArray (v0::v1::v2::v3:: .pointer (some ⟨g4,0,none⟩)::v5::v6::v7::v8::v9::v10::v11::v12::v13::v14:: .int .i64 n::v16::v17::v18::v19::v20::v21::v22::v23::v24::R)), []⟩ w:=by
 have HQ:=Aa hQ;clear hQ;rw[Cu R hR]
 conv=>arg 2;whnf
 obtain⟨z0,z1,z2,z3⟩:=Cp _ _ _ _ _ _ _ hZ;have f0:=Ap w g4 0 _ _ hZ;have f1:=Ap w g4 1 _ _ hZ;have f2:=Ap w g4 2 _ _ hZ;have f3:=Ap w g4 3 _ _ hZ;have HST:=Aa (Jl (.slice none 0 0) (.int .i64 0) (.int .i64 0) (.slice none 0 0) (Af g4) hZ);clear hZ;go_wp2_with fail
 exact HQ.out _ _ rfl HST.out.1 HST.out.2
theorem Jrg{g4:Nat}{w:World}{Q:Exit→Act→World→Prop}{v0 v1 v2 v3 v5 v6 v7 v8 v9 v10 v11 v12 v13 v14 v15 v16 v17 v18 v19 v20 v21 v22 v23 v24:Value}{R:List Value}(hR:R.length=198)
 (hZ:w.heap[g4]?=some (.cells zG 77 (0,0)))
 (hQ:∀(R':List Value)(w':World),R'.length=198→w'.heap[g4]?=some (.cells zG 77 (0,0))→FrT g4 [77] w w'→Q .normal ⟨(List.toArray (v0::v1::v2::v3:: .pointer (some ⟨g4,0,none⟩):: .int .i64 6::v6::v7::v8::v9::v10::v11::v12::v13::v14::v15::v16::v17::v18::v19::v20::v21::v22::v23::v24::R')), []⟩ w'):
 Code.wp Tryz.prog (Br 22) Q ⟨(List.toArray (v0::v1::v2::v3:: .pointer (some ⟨g4,0,none⟩)::v5::v6::v7::v8::v9::v10::v11::v12::v13::v14::v15::v16::v17::v18::v19::v20::v21::v22::v23::v24::R)), []⟩ w:=by
 have HQ:=Aa hQ;clear hQ;rw[Cu R hR]
 conv=>arg 2;whnf
 obtain⟨z0,z1,z2,z3⟩:=Cp _ _ _ _ _ _ _ hZ;have f0:=Ap w g4 0 _ _ hZ;have f1:=Ap w g4 1 _ _ hZ;have f2:=Ap w g4 2 _ _ hZ;have f3:=Ap w g4 3 _ _ hZ;have HST:=Aa (Jl (.slice none 0 0) (.int .i64 0) (.int .i64 0) (.slice none 0 0) (Af g4) hZ);clear hZ;go_wp2_with fail
 exact HQ.out _ _ rfl HST.out.1 HST.out.2
theorem Jrq{g4:Nat}{w:World}{Q:Exit→Act→World→Prop}{v0 v1 v2 v3 v5 v6 v7 v8 v9 v10 v11 v12 v13 v14 v15 v16 v17 v18 v19 v20 v21 v22 v23 v24:Value}{R:List Value}(hR:R.length=198)
 (hZ:w.heap[g4]?=some (.cells zG 77 (0,0)))
 (hQ:∀(R':List Value)(w':World),R'.length=198→w'.heap[g4]?=some (.cells zG 77 (0,0))→FrT g4 [77] w w'→Q .normal ⟨(List.toArray (v0::v1::v2::v3:: .pointer (some ⟨g4,0,none⟩):: .int .i64 5::v6::v7::v8::v9::v10::v11::v12::v13::v14::v15::v16::v17::v18::v19::v20::v21::v22::v23::v24::R')), []⟩ w'):
 Code.wp Tryz.prog (Br 39) Q ⟨(List.toArray (v0::v1::v2::v3:: .pointer (some ⟨g4,0,none⟩)::v5::v6::v7::v8::v9::v10::v11::v12::v13::v14::v15::v16::v17::v18::v19::v20::v21::v22::v23::v24::R)), []⟩ w:=by
 have HQ:=Aa hQ;clear hQ;rw[Cu R hR]
 conv=>arg 2;whnf
 obtain⟨z0,z1,z2,z3⟩:=Cp _ _ _ _ _ _ _ hZ;have f0:=Ap w g4 0 _ _ hZ;have f1:=Ap w g4 1 _ _ hZ;have f2:=Ap w g4 2 _ _ hZ;have f3:=Ap w g4 3 _ _ hZ;have HST:=Aa (Jl (.slice none 0 0) (.int .i64 0) (.int .i64 0) (.slice none 0 0) (Af g4) hZ);clear hZ;go_wp2_with fail
 exact HQ.out _ _ rfl HST.out.1 HST.out.2
theorem bdrg5{pn:Option Addr}{n cn:Nat}{w:World}{Q:Exit→Act→World→Prop}{v0 v1 v2 v3 v4 v5 v6 v7 v9 v10 v11 v12 v13 v14 v15 v16 v17 v18 v19 v20 v21 v22 v23 v24:Value}{R:List Value}(hR:R.length=198)
 (hQ:∀(R':List Value),R'.length=198→Q .normal ⟨(List.toArray (v0::v1::v2::v3::v4::v5::v6::v7:: .slice pn n cn:: .pointer (some ⟨w.heap.size,0,none⟩)::v10::v11::v12::v13::v14::v15::v16::v17::v18::v19::v20::v21::v22::v23::v24::R')), []⟩ (w.alloc (.cells #[.slice pn n cn,.int .i64 0,.int .i64 0,.slice none 0 0] 77))):
 Code.wp Tryz.prog (Br 5) Q ⟨(List.toArray (v0::v1::v2::v3::v4::v5::v6::v7:: .slice pn n cn::v9::v10::v11::v12::v13::v14::v15::v16::v17::v18::v19::v20::v21::v22::v23::v24::R)), []⟩ w:=by
 have HQ:=Aa hQ;clear hQ;rw[Cu R hR]
 conv=>arg 2;whnf
 go_wp2_with fail
 exact HQ.out _ rfl
theorem bdrg6{w:World}{Q:Exit→Act→World→Prop}{v0 v1 v2 v3 v4 v5 v6 v7 v8 v9 v10 v11 v12 v13 v14 v15 v16 v17 v18 v19 v20 v21 v22 v23 v24:Value}{R:List Value}(hR:R.length=198)
 (hQ:∀(R':List Value),R'.length=198→Q .normal ⟨(List.toArray (v0::v1::v2::v3::v4::v5::v6::v7::v8::v9:: .int .i64 0::v11::v12::v13::v14::v15::v16::v17::v18::v19::v20::v21::v22::v23::v24::R')), []⟩ w):
 Code.wp Tryz.prog (Br 6) Q ⟨(List.toArray (v0::v1::v2::v3::v4::v5::v6::v7::v8::v9::v10::v11::v12::v13::v14::v15::v16::v17::v18::v19::v20::v21::v22::v23::v24::R)), []⟩ w:=by
 have HQ:=Aa hQ;clear hQ;rw[Cu R hR]
 conv=>arg 2;whnf
 go_wp2_with fail
 exact HQ.out _ rfl
theorem bdrg7{pn:Option Addr}{i n cn:Nat}{w:World}{Q:Exit→Act→World→Prop}{v0 v1 v2 v3 v4 v5 v6 v7 v9 v11 v12 v13 v14 v15 v16 v17 v18 v19 v20 v21 v22 v23 v24:Value}{R:List Value}(hR:R.length=198)
 (hQ:∀(R':List Value),R'.length=198→Ay R' 17= .bool (decide (i < n))→Q .normal ⟨(List.toArray (v0::v1::v2::v3::v4::v5::v6::v7:: .slice pn n cn::v9:: .int .i64 (i:Int)::v11::v12::v13::v14::v15::v16::v17::v18::v19::v20::v21::v22::v23::v24::R')), []⟩ w):
 Code.wp Tryz.prog (Br 7) Q ⟨(List.toArray (v0::v1::v2::v3::v4::v5::v6::v7:: .slice pn n cn::v9:: .int .i64 (i:Int)::v11::v12::v13::v14::v15::v16::v17::v18::v19::v20::v21::v22::v23::v24::R)), []⟩ w:=by
 have HQ:=Aa hQ;clear hQ;rw[Cu R hR]
 conv=>arg 2;whnf
 go_wp2_with fail
 exact HQ.out _ rfl rfl
theorem Joq{i:Nat}{w:World}{Q:Exit→Act→World→Prop}{v0 v1 v2 v3 v4 v5 v6 v7 v8 v9 v11 v12 v13 v14 v15 v16 v17 v18 v19 v20 v21 v22 v23 v24:Value}{R:List Value}(hR:R.length=198)
 (kw:IntKind.i64.wrap ((i:Int)+1)=(i:Int)+1)
 (hQ:∀(R':List Value),R'.length=198→Q .normal ⟨(List.toArray (v0::v1::v2::v3::v4::v5::v6::v7::v8::v9:: .int .i64 ((i:Int)+1)::v11::v12::v13::v14::v15::v16::v17::v18::v19::v20::v21::v22::v23::v24::R')), []⟩ w):
 Code.wp Tryz.prog (Br 8) Q ⟨(List.toArray (v0::v1::v2::v3::v4::v5::v6::v7::v8::v9:: .int .i64 (i:Int)::v11::v12::v13::v14::v15::v16::v17::v18::v19::v20::v21::v22::v23::v24::R)), []⟩ w:=by
 have HQ:=Aa hQ;clear hQ;rw[Cu R hR]
 conv=>arg 2;whnf
 go_wp2_with fail
 exact HQ.out _ rfl
theorem Jr6{b:Bool}{w:World}{Q:Exit→Act→World→Prop}{v0 v1 v2 v3 v4 v5 v6 v7 v8 v9 v10 v12 v13 v14 v15 v16 v17 v18 v19 v20 v21 v22 v23 v24:Value}{R:List Value}(hR:R.length=198)
 (hQ:∀(R':List Value),R'.length=198→Ay R' 38= .bool b→Q .normal ⟨(List.toArray (v0::v1::v2::v3::v4::v5::v6::v7::v8::v9::v10:: .bool b::v12::v13::v14::v15::v16::v17::v18::v19::v20::v21::v22::v23::v24::R')), []⟩ w):
 Code.wp Tryz.prog (Br 10) Q ⟨(List.toArray (v0::v1::v2::v3::v4::v5::v6::v7::v8::v9::v10:: .bool b::v12::v13::v14::v15::v16::v17::v18::v19::v20::v21::v22::v23::v24::R)), []⟩ w:=by
 have HQ:=Aa hQ;clear hQ;rw[Cu R hR]
 conv=>arg 2;whnf
 go_wp2_with fail
 exact HQ.out _ rfl rfl
theorem Jsc{w:World}{Q:Exit→Act→World→Prop}{v0 v1 v2 v3 v4 v5 v6 v7 v8 v9 v10 v11 v12 v13 v14 v15 v16 v17 v18 v19 v20 v21 v22 v23 v24:Value}{R:List Value}(hR:R.length=198)
 (hQ:∀(R':List Value),R'.length=198→Q .normal ⟨(List.toArray (v0::v1::v2::v3::v4::v5::v6::v7::v8::v9::v10::v11::v12:: .int .i64 0::v14::v15::v16::v17::v18::v19::v20::v21::v22::v23::v24::R')), []⟩ w):
 Code.wp Tryz.prog (Br 12) Q ⟨(List.toArray (v0::v1::v2::v3::v4::v5::v6::v7::v8::v9::v10::v11::v12::v13::v14::v15::v16::v17::v18::v19::v20::v21::v22::v23::v24::R)), []⟩ w:=by
 have HQ:=Aa hQ;clear hQ;rw[Cu R hR]
 conv=>arg 2;whnf
 go_wp2_with fail
 exact HQ.out _ rfl
theorem Jsn{qr:Option Addr}{i n cr:Nat}{w:World}{Q:Exit→Act→World→Prop}{v0 v1 v2 v3 v4 v5 v6 v7 v8 v9 v10 v11 v14 v15 v16 v17 v18 v19 v20 v21 v22 v23 v24:Value}{R:List Value}(hR:R.length=198)
 (hQ:∀(R':List Value),R'.length=198→Ay R' 60= .bool (decide (i < n))→Q .normal ⟨(List.toArray (v0::v1::v2::v3::v4::v5::v6::v7::v8::v9::v10::v11:: .slice qr n cr:: .int .i64 (i:Int)::v14::v15::v16::v17::v18::v19::v20::v21::v22::v23::v24::R')), []⟩ w):
 Code.wp Tryz.prog (Br 13) Q ⟨(List.toArray (v0::v1::v2::v3::v4::v5::v6::v7::v8::v9::v10::v11:: .slice qr n cr:: .int .i64 (i:Int)::v14::v15::v16::v17::v18::v19::v20::v21::v22::v23::v24::R)), []⟩ w:=by
 have HQ:=Aa hQ;clear hQ;rw[Cu R hR]
 conv=>arg 2;whnf
 go_wp2_with fail
 exact HQ.out _ rfl rfl
theorem Jsu{i:Nat}{w:World}{Q:Exit→Act→World→Prop}{v0 v1 v2 v3 v4 v5 v6 v7 v8 v9 v10 v11 v12 v14 v15 v16 v17 v18 v19 v20 v21 v22 v23 v24:Value}{R:List Value}(hR:R.length=198)
 (kw:IntKind.i64.wrap ((i:Int)+1)=(i:Int)+1)
 (hQ:∀(R':List Value),R'.length=198→Q .normal ⟨(List.toArray (v0::v1::v2::v3::v4::v5::v6::v7::v8::v9::v10::v11::v12:: .int .i64 ((i:Int)+1)::v14::v15::v16::v17::v18::v19::v20::v21::v22::v23::v24::R')), []⟩ w):
 Code.wp Tryz.prog (Br 14) Q ⟨(List.toArray (v0::v1::v2::v3::v4::v5::v6::v7::v8::v9::v10::v11::v12:: .int .i64 (i:Int)::v14::v15::v16::v17::v18::v19::v20::v21::v22::v23::v24::R)), []⟩ w:=by
 have HQ:=Aa hQ;clear hQ;rw[Cu R hR]
 conv=>arg 2;whnf
 go_wp2_with fail
 exact HQ.out _ rfl
theorem Jq6{n:Int}{w:World}{Q:Exit→Act→World→Prop}{v0 v1 v2 v3 v4 v5 v6 v7 v8 v9 v10 v11 v12 v13 v14 v16 v17 v18 v19 v20 v21 v22 v23 v24:Value}{R:List Value}(hR:R.length=198)
 (hQ:∀(R':List Value),R'.length=198→Ay R' 80= .bool (n != 0)→Q .normal ⟨(List.toArray (v0::v1::v2::v3::v4::v5::v6::v7::v8::v9::v10::v11::v12::v13::v14:: .int .i64 n::v16::v17::v18::v19::v20::v21::v22::v23::v24::R')), []⟩ w):
 Code.wp Tryz.prog (Br 16) Q ⟨(List.toArray (v0::v1::v2::v3::v4::v5::v6::v7::v8::v9::v10::v11::v12::v13::v14:: .int .i64 n::v16::v17::v18::v19::v20::v21::v22::v23::v24::R)), []⟩ w:=by
 have HQ:=Aa hQ;clear hQ;rw[Cu R hR]
 conv=>arg 2;whnf
 go_wp2_with fail
 exact HQ.out _ rfl rfl
theorem Jrt{g14:Nat}{P:Cq}{w:World}{Q:Exit→Act→World→Prop}{v0 v1 v2 v3 v4 v5 v6 v7 v8 v9 v10 v11 v12 v13 v15 v16 v17 v18 v19 v20 v21 v22 v23 v24:Value}{R:List Value}(hR:R.length=198)
 (hP:w.heap[g14]?=some (.cells (Jy P) 70 (0,0)))
 (hQ:∀(R':List Value),R'.length=198→Ay R' 103= .bool (decide (0 < P.sec))→Q .normal ⟨(List.toArray (v0::v1::v2::v3::v4::v5::v6::v7::v8::v9::v10::v11::v12::v13:: .pointer (some ⟨g14,0,none⟩)::v15::v16::v17::v18::v19::v20::v21::v22::v23::v24::R')), []⟩ w):
 Code.wp Tryz.prog (Br 19) Q ⟨(List.toArray (v0::v1::v2::v3::v4::v5::v6::v7::v8::v9::v10::v11::v12::v13:: .pointer (some ⟨g14,0,none⟩)::v15::v16::v17::v18::v19::v20::v21::v22::v23::v24::R)), []⟩ w:=by
 have HQ:=Aa hQ;clear hQ;rw[Cu R hR]
 conv=>arg 2;whnf
 have z1:=Bi hP 1 _ rfl;clear hP;go_wp2_with fail
 exact HQ.out _ rfl rfl
theorem Jrm{t:Int}{w:World}{Q:Exit→Act→World→Prop}{v0 v1 v2 v3 v4 v5 v6 v7 v8 v9 v10 v11 v12 v13 v14 v15 v16 v18 v19 v20 v21 v22 v23 v24:Value}{R:List Value}(hR:R.length=198)
 (hQ:∀(R':List Value),R'.length=198→Ay R' 111= .bool (decide (t < 0))→Q .normal ⟨(List.toArray (v0::v1::v2::v3::v4::v5::v6::v7::v8::v9::v10::v11::v12::v13::v14::v15::v16:: .int .i64 t::v18::v19::v20::v21::v22::v23::v24::R')), []⟩ w):
 Code.wp Tryz.prog (Br 21) Q ⟨(List.toArray (v0::v1::v2::v3::v4::v5::v6::v7::v8::v9::v10::v11::v12::v13::v14::v15::v16:: .int .i64 t::v18::v19::v20::v21::v22::v23::v24::R)), []⟩ w:=by
 have HQ:=Aa hQ;clear hQ;rw[Cu R hR]
 conv=>arg 2;whnf
 go_wp2_with fail
 exact HQ.out _ rfl rfl
theorem Jsb{g16:Nat}{t a b c d e:Int}{w:World}{Q:Exit→Act→World→Prop}{v0 v1 v2 v3 v4 v5 v6 v7 v8 v9 v10 v11 v12 v13 v14 v15 v18 v19 v20 v21 v22 v23 v24:Value}{R:List Value}(hR:R.length=198)
 (hE:w.heap[g16]?=some (.cells #[.int .i64 a,.int .i64 b,.int .i64 c,.int .i64 d,.int .i64 e] 92 (0,0)))
 (hQ:∀(R':List Value)(w':World),R'.length=198→w'.heap[g16]?=some (.cells #[.int .i64 a,.int .i64 b,.int .i64 c,.int .i64 t,.int .i64 e] 92 (0,0))→FrT g16 [92] w w'→Q .normal ⟨(List.toArray (v0::v1::v2::v3::v4::v5::v6::v7::v8::v9::v10::v11::v12::v13::v14::v15:: .pointer (some ⟨g16,0,none⟩):: .int .i64 t::v18::v19::v20::v21::v22::v23::v24::R')), []⟩ w'):
 Code.wp Tryz.prog (Br 23) Q ⟨(List.toArray (v0::v1::v2::v3::v4::v5::v6::v7::v8::v9::v10::v11::v12::v13::v14::v15:: .pointer (some ⟨g16,0,none⟩):: .int .i64 t::v18::v19::v20::v21::v22::v23::v24::R)), []⟩ w:=by
 have HQ:=Aa hQ;clear hQ;rw[Cu R hR]
 conv=>arg 2;whnf
 have z3:=Bi hE 3 _ rfl;have f3:=Ap w g16 3 _ _ hE;have HST:=Aa (An w g16 3 _ _ (.int .i64 t) hE);have HF:=Aa (FrT.set (N:=g16) (Ts:= [92]) (i:=3) hE (by simp) (Af _) (.int .i64 t));clear hE;go_wp2_with fail
 exact HQ.out _ _ rfl HST.out HF.out
theorem Jrf{g16:Nat}{t a b c d e:Int}{w:World}{Q:Exit→Act→World→Prop}{v0 v1 v2 v3 v4 v5 v6 v7 v8 v9 v10 v11 v12 v13 v14 v15 v17 v19 v20 v21 v22 v23 v24:Value}{R:List Value}(hR:R.length=198)
 (hE:w.heap[g16]?=some (.cells #[.int .i64 a,.int .i64 b,.int .i64 c,.int .i64 d,.int .i64 e] 92 (0,0)))
 (hQ:∀(R':List Value)(w':World),R'.length=198→w'.heap[g16]?=some (.cells #[.int .i64 a,.int .i64 b,.int .i64 c,.int .i64 d,.int .i64 t] 92 (0,0))→FrT g16 [92] w w'→Q .normal ⟨(List.toArray (v0::v1::v2::v3::v4::v5::v6::v7::v8::v9::v10::v11::v12::v13::v14::v15:: .pointer (some ⟨g16,0,none⟩)::v17:: .int .i64 t::v19::v20::v21::v22::v23::v24::R')), []⟩ w'):
 Code.wp Tryz.prog (Br 24) Q ⟨(List.toArray (v0::v1::v2::v3::v4::v5::v6::v7::v8::v9::v10::v11::v12::v13::v14::v15:: .pointer (some ⟨g16,0,none⟩)::v17:: .int .i64 t::v19::v20::v21::v22::v23::v24::R)), []⟩ w:=by
 have HQ:=Aa hQ;clear hQ;rw[Cu R hR]
 conv=>arg 2;whnf
 have z4:=Bi hE 4 _ rfl;have f4:=Ap w g16 4 _ _ hE;have HST:=Aa (An w g16 4 _ _ (.int .i64 t) hE);have HF:=Aa (FrT.set (N:=g16) (Ts:= [92]) (i:=4) hE (by simp) (Af _) (.int .i64 t));clear hE;go_wp2_with fail
 exact HQ.out _ _ rfl HST.out HF.out
theorem Jr7{w:World}{Q:Exit→Act→World→Prop}{v0 v1 v2 v3 v4 v5 v6 v7 v8 v9 v10 v11 v12 v13 v14 v15 v16 v17 v18 v19 v20 v21 v22 v23 v24:Value}{R:List Value}(hR:R.length=198)
 (hQ:∀(R':List Value),R'.length=198→Q .normal ⟨(List.toArray (v0::v1::v2::v3::v4::v5::v6::v7::v8::v9::v10::v11::v12::v13::v14::v15::v16::v17::v18:: .bool false::v20::v21::v22::v23::v24::R')), []⟩ w):
 Code.wp Tryz.prog (Br 26) Q ⟨(List.toArray (v0::v1::v2::v3::v4::v5::v6::v7::v8::v9::v10::v11::v12::v13::v14::v15::v16::v17::v18::v19::v20::v21::v22::v23::v24::R)), []⟩ w:=by
 have HQ:=Aa hQ;clear hQ;rw[Cu R hR]
 conv=>arg 2;whnf
 go_wp2_with fail
 exact HQ.out _ rfl
theorem Jq9{w:World}{Q:Exit→Act→World→Prop}{v0 v1 v2 v3 v4 v5 v6 v7 v8 v9 v10 v11 v12 v13 v14 v15 v16 v17 v18 v19 v20 v21 v22 v23 v24:Value}{R:List Value}(hR:R.length=198)
 (hQ:∀(R':List Value),R'.length=198→Q .normal ⟨(List.toArray (v0::v1::v2::v3::v4::v5::v6::v7::v8::v9::v10::v11::v12::v13::v14::v15::v16::v17::v18::v19:: .int .i64 0::v21::v22::v23::v24::R')), []⟩ w):
 Code.wp Tryz.prog (Br 27) Q ⟨(List.toArray (v0::v1::v2::v3::v4::v5::v6::v7::v8::v9::v10::v11::v12::v13::v14::v15::v16::v17::v18::v19::v20::v21::v22::v23::v24::R)), []⟩ w:=by
 have HQ:=Aa hQ;clear hQ;rw[Cu R hR]
 conv=>arg 2;whnf
 go_wp2_with fail
 exact HQ.out _ rfl
theorem Jrv{g6 i n cf:Nat}{u:Value}{pf:Option Addr}{w:World}{Q:Exit→Act→World→Prop}{v0 v1 v2 v3 v4 v5 v7 v8 v9 v10 v11 v12 v13 v14 v15 v16 v17 v18 v19 v21 v22 v23 v24:Value}{R:List Value}(hR:R.length=198)
 (hT:w.heap[g6]?=some (.cells #[u,.slice pf n cf] 54 (0,0)))
 (hQ:∀(R':List Value),R'.length=198→Ay R' 135= .bool (decide (i < n))→Q .normal ⟨(List.toArray (v0::v1::v2::v3::v4::v5:: .pointer (some ⟨g6,0,none⟩)::v7::v8::v9::v10::v11::v12::v13::v14::v15::v16::v17::v18::v19:: .int .i64 (i:Int)::v21::v22::v23::v24::R')), []⟩ w):
 Code.wp Tryz.prog (Br 28) Q ⟨(List.toArray (v0::v1::v2::v3::v4::v5:: .pointer (some ⟨g6,0,none⟩)::v7::v8::v9::v10::v11::v12::v13::v14::v15::v16::v17::v18::v19:: .int .i64 (i:Int)::v21::v22::v23::v24::R)), []⟩ w:=by
 have HQ:=Aa hQ;clear hQ;rw[Cu R hR]
 conv=>arg 2;whnf
 have z1:=Bi hT 1 _ rfl;clear hT;go_wp2_with fail
 exact HQ.out _ rfl rfl
theorem Jr4{i:Nat}{w:World}{Q:Exit→Act→World→Prop}{v0 v1 v2 v3 v4 v5 v6 v7 v8 v9 v10 v11 v12 v13 v14 v15 v16 v17 v18 v19 v21 v22 v23 v24:Value}{R:List Value}(hR:R.length=198)
 (kw:IntKind.i64.wrap ((i:Int)+1)=(i:Int)+1)
 (hQ:∀(R':List Value),R'.length=198→Q .normal ⟨(List.toArray (v0::v1::v2::v3::v4::v5::v6::v7::v8::v9::v10::v11::v12::v13::v14::v15::v16::v17::v18::v19:: .int .i64 ((i:Int)+1)::v21::v22::v23::v24::R')), []⟩ w):
 Code.wp Tryz.prog (Br 29) Q ⟨(List.toArray (v0::v1::v2::v3::v4::v5::v6::v7::v8::v9::v10::v11::v12::v13::v14::v15::v16::v17::v18::v19:: .int .i64 (i:Int)::v21::v22::v23::v24::R)), []⟩ w:=by
 have HQ:=Aa hQ;clear hQ;rw[Cu R hR]
 conv=>arg 2;whnf
 go_wp2_with fail
 exact HQ.out _ rfl
theorem Jry{n t:Int}{w:World}{Q:Exit→Act→World→Prop}{v0 v1 v2 v3 v4 v5 v6 v7 v8 v9 v10 v11 v12 v13 v14 v15 v16 v17 v18 v19 v20 v21 v24:Value}{R:List Value}(hR:R.length=198)
 (hQ:∀(R':List Value),R'.length=198→Ay R' 167= .bool ((n != 0) || decide (t < 0))→Q .normal ⟨(List.toArray (v0::v1::v2::v3::v4::v5::v6::v7::v8::v9::v10::v11::v12::v13::v14::v15::v16::v17::v18::v19::v20::v21:: .int .i64 n:: .int .i64 t::v24::R')), []⟩ w):
 Code.wp Tryz.prog (Br 32) Q ⟨(List.toArray (v0::v1::v2::v3::v4::v5::v6::v7::v8::v9::v10::v11::v12::v13::v14::v15::v16::v17::v18::v19::v20::v21:: .int .i64 n:: .int .i64 t::v24::R)), []⟩ w:=by
 have HQ:=Aa hQ;clear hQ;rw[Cu R hR]
 conv=>arg 2;whnf
 cases hn:(n != 0)with
 |true=>
  go_wp2_with fail
  exact HQ.out _ rfl (by rw[hn];rfl)
 |false=>
  go_wp2_with fail
  exact HQ.out _ rfl (by rw[hn];rfl)
theorem Jq7{g6 i n cf bf of_:Nat}{u:Value}{nm en:ByteArray}{w:World}{Q:Exit→Act→World→Prop}{v0 v2 v3 v4 v5 v7 v8 v9 v10 v11 v12 v13 v14 v15 v16 v17 v18 v19 v21 v22 v23 v24:Value}{R:List Value}(hR:R.length=198)
 (hT:w.heap[g6]?=some (.cells #[u,.slice (some ⟨bf,of_,none⟩) n cf] 54 (0,0)))(d0:w.cell? ⟨bf,of_+i*3,none⟩=some (.string nm))(hi:(i:Int) < (n:Int))
 (hQ:∀(R':List Value),R'.length=198→Ay R' 189= .bool (sEq nm en)→Q .normal ⟨(List.toArray (v0:: .string en::v2::v3::v4::v5:: .pointer (some ⟨g6,0,none⟩)::v7::v8::v9::v10::v11::v12::v13::v14::v15::v16::v17::v18::v19:: .int .i64 (i:Int)::v21::v22::v23::v24::R')), []⟩ w):
 Code.wp Tryz.prog (Br 34) Q ⟨(List.toArray (v0:: .string en::v2::v3::v4::v5:: .pointer (some ⟨g6,0,none⟩)::v7::v8::v9::v10::v11::v12::v13::v14::v15::v16::v17::v18::v19:: .int .i64 (i:Int)::v21::v22::v23::v24::R)), []⟩ w:=by
 have HQ:=Aa hQ;clear hQ;rw[Cu R hR]
 conv=>arg 2;whnf
 have hi0:(0:Int)≤(i:Int):=by omega
 have z1:=Bi hT 1 _ rfl;clear hT;go_wp2_with fail
 exact HQ.out _ rfl rfl
theorem Jst{g9:Nat}{t:Int}{y0 y1 y2 y3:Value}{w:World}{Q:Exit→Act→World→Prop}{v0 v1 v2 v3 v4 v5 v6 v7 v8 v10 v11 v12 v13 v14 v15 v16 v17 v18 v19 v20 v21 v22 v24:Value}{R:List Value}(hR:R.length=198)
 (hG:w.heap[g9]?=some (.cells #[y0,y1,y2,y3] 77 (0,0)))
 (hQ:∀(R':List Value)(w':World),R'.length=198→w'.heap[g9]?=some (.cells #[y0,.int .i64 t,y2,y3] 77 (0,0))→FrT g9 [77] w w'→Q .normal ⟨(List.toArray (v0::v1::v2::v3::v4::v5::v6::v7::v8:: .pointer (some ⟨g9,0,none⟩)::v10::v11::v12::v13::v14::v15::v16::v17::v18::v19::v20::v21::v22:: .int .i64 t::v24::R')), []⟩ w'):
 Code.wp Tryz.prog (Br 35) Q ⟨(List.toArray (v0::v1::v2::v3::v4::v5::v6::v7::v8:: .pointer (some ⟨g9,0,none⟩)::v10::v11::v12::v13::v14::v15::v16::v17::v18::v19::v20::v21::v22:: .int .i64 t::v24::R)), []⟩ w:=by
 have HQ:=Aa hQ;clear hQ;rw[Cu R hR]
 conv=>arg 2;whnf
 have z:=Bi hG 1 _ rfl;have f:=Ap w g9 1 _ _ hG;have HST:=Aa (An w g9 1 _ _ (.int .i64 t) hG);have HF:=Aa (FrT.set (N:=g9) (Ts:= [77]) (i:=1) hG (by simp) (Af _) (.int .i64 t));clear hG;go_wp2_with fail
 exact HQ.out _ _ rfl HST.out HF.out
theorem Jrn{g9:Nat}{t:Int}{y0 y1 y2 y3:Value}{w:World}{Q:Exit→Act→World→Prop}{v0 v1 v2 v3 v4 v5 v6 v7 v8 v10 v11 v12 v13 v14 v15 v16 v17 v18 v19 v20 v21 v22 v23:Value}{R:List Value}(hR:R.length=198)
 (hG:w.heap[g9]?=some (.cells #[y0,y1,y2,y3] 77 (0,0)))
 (hQ:∀(R':List Value)(w':World),R'.length=198→w'.heap[g9]?=some (.cells #[y0,y1,.int .i64 t,y3] 77 (0,0))→FrT g9 [77] w w'→Q .normal ⟨(List.toArray (v0::v1::v2::v3::v4::v5::v6::v7::v8:: .pointer (some ⟨g9,0,none⟩)::v10::v11::v12::v13::v14::v15::v16::v17::v18::v19::v20::v21::v22::v23:: .int .i64 t::R')), []⟩ w'):
 Code.wp Tryz.prog (Br 36) Q ⟨(List.toArray (v0::v1::v2::v3::v4::v5::v6::v7::v8:: .pointer (some ⟨g9,0,none⟩)::v10::v11::v12::v13::v14::v15::v16::v17::v18::v19::v20::v21::v22::v23:: .int .i64 t::R)), []⟩ w:=by
 have HQ:=Aa hQ;clear hQ;rw[Cu R hR]
 conv=>arg 2;whnf
 have z:=Bi hG 2 _ rfl;have f:=Ap w g9 2 _ _ hG;have HST:=Aa (An w g9 2 _ _ (.int .i64 t) hG);have HF:=Aa (FrT.set (N:=g9) (Ts:= [77]) (i:=2) hG (by simp) (Af _) (.int .i64 t));clear hG;go_wp2_with fail
 exact HQ.out _ _ rfl HST.out HF.out
theorem Jrk{w:World}{Q:Exit→Act→World→Prop}{v0 v1 v2 v3 v4 v5 v6 v7 v8 v9 v10 v11 v12 v13 v14 v15 v16 v17 v18 v19 v20 v21 v22 v23 v24:Value}{R:List Value}(hR:R.length=198)
 (hQ:∀(R':List Value),R'.length=198→Q .normal ⟨(List.toArray (v0::v1::v2::v3::v4::v5::v6::v7::v8::v9::v10::v11::v12::v13::v14::v15::v16::v17::v18:: .bool true::v20::v21::v22::v23::v24::R')), []⟩ w):
 Code.wp Tryz.prog (Br 37) Q ⟨(List.toArray (v0::v1::v2::v3::v4::v5::v6::v7::v8::v9::v10::v11::v12::v13::v14::v15::v16::v17::v18::v19::v20::v21::v22::v23::v24::R)), []⟩ w:=by
 have HQ:=Aa hQ;clear hQ;rw[Cu R hR]
 conv=>arg 2;whnf
 go_wp2_with fail
 exact HQ.out _ rfl
theorem Jsf{b:Bool}{w:World}{Q:Exit→Act→World→Prop}{v0 v1 v2 v3 v4 v5 v6 v7 v8 v9 v10 v11 v12 v13 v14 v15 v16 v17 v18 v20 v21 v22 v23 v24:Value}{R:List Value}(hR:R.length=198)
 (hQ:∀(R':List Value),R'.length=198→Ay R' 195= .bool (!b)→Q .normal ⟨(List.toArray (v0::v1::v2::v3::v4::v5::v6::v7::v8::v9::v10::v11::v12::v13::v14::v15::v16::v17::v18:: .bool b::v20::v21::v22::v23::v24::R')), []⟩ w):
 Code.wp Tryz.prog (Br 38) Q ⟨(List.toArray (v0::v1::v2::v3::v4::v5::v6::v7::v8::v9::v10::v11::v12::v13::v14::v15::v16::v17::v18:: .bool b::v20::v21::v22::v23::v24::R)), []⟩ w:=by
 have HQ:=Aa hQ;clear hQ;rw[Cu R hR]
 conv=>arg 2;whnf
 go_wp2_with fail
 exact HQ.out _ rfl rfl
theorem Jro{g4 g9 pn_ cn qn cq:Nat}{pn qm:Option Addr}{t a:Int}{w:World}{Q:Exit→Act→World→Prop}{v0 v1 v2 v3 v5 v6 v7 v8 v10 v11 v12 v13 v14 v15 v16 v17 v18 v19 v20 v21 v22 v23 v24:Value}{R:List Value}(hR:R.length=198)
 (hZ:w.heap[g4]?=some (.cells zG 77 (0,0)))(hG:w.heap[g9]?=some (.cells #[.slice pn pn_ cn,.int .i64 t,.int .i64 a,.slice qm qn cq] 77 (0,0)))
 (hQ:∀(R':List Value)(w':World),R'.length=198→w'.heap[g4]?=some (.cells #[.slice pn pn_ cn,.int .i64 t,.int .i64 a,.slice qm qn cq] 77 (0,0))→FrT g4 [77] w w'→Q .normal ⟨(List.toArray (v0::v1::v2::v3:: .pointer (some ⟨g4,0,none⟩):: .int .i64 0::v6::v7::v8:: .pointer (some ⟨g9,0,none⟩)::v10::v11::v12::v13::v14::v15::v16::v17::v18::v19::v20::v21::v22::v23::v24::R')), []⟩ w'):
 Code.wp Tryz.prog (Br 40) Q ⟨(List.toArray (v0::v1::v2::v3:: .pointer (some ⟨g4,0,none⟩)::v5::v6::v7::v8:: .pointer (some ⟨g9,0,none⟩)::v10::v11::v12::v13::v14::v15::v16::v17::v18::v19::v20::v21::v22::v23::v24::R)), []⟩ w:=by
 have HQ:=Aa hQ;clear hQ;rw[Cu R hR]
 conv=>arg 2;whnf
 obtain⟨x0,x1,x2,x3⟩:=Cp _ _ _ _ _ _ _ hG;obtain⟨z0,z1,z2,z3⟩:=Cp _ _ _ _ _ _ _ hZ;have f0:=Ap w g4 0 _ _ hZ;have f1:=Ap w g4 1 _ _ hZ;have f2:=Ap w g4 2 _ _ hZ;have f3:=Ap w g4 3 _ _ hZ;have HST:=Aa (Jl (.slice pn pn_ cn) (.int .i64 t) (.int .i64 a) (.slice qm qn cq) (Af g4) hZ);clear hZ hG;go_wp2_with fail
 exact HQ.out _ _ rfl HST.out.1 HST.out.2
end Go.Proofs.YteopgmieindojaaGreat
