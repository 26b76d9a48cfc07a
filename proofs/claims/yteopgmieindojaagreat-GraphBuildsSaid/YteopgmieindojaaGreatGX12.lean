/- Parts of a proof. -/
import Derived.Test.YteopgmieindojaaGreatGX08
import Derived.Test.YteopgmieindojaaGreatGX03
import Derived.Test.YteopgmieindojaaGreatGX10
import Derived.Lib.Bytealg
import Derived.Laws.Externs
import Derived.Test.YteopgmieindojaaGreatGX04
set_option maxRecDepth 1000000
set_option maxHeartbeats 8000000
namespace Go.Proofs.YteopgmieindojaaGreat
open Go.RowKit
structure Lj where
 (pcs:List PcD)
 (first group:Int)
 (named:Bool)
def Jde(w:World)(b o:Nat)(x:Lj):Prop:=(∃v,w.cell? ⟨b,o,none⟩=some v∧IsL 2 EPc w v x.pcs)∧w.cell? ⟨b,o+1,none⟩=some (.int .i64 x.first)∧w.cell? ⟨b,o+2,none⟩=some (.int .i64 x.group)∧w.cell? ⟨b,o+3,none⟩=some (.bool x.named)
theorem Jde.keeps:Hb Jde:=fun _ _ _ _ _ hb ⟨⟨v,c,h⟩,h1,h2,h3⟩=>⟨⟨v,Cf hb c,h.below EPc.keeps hb⟩,Cf hb h1,Cf hb h2,Cf hb h3⟩
def Gj(w:World)(b o:Nat)(xs:List Lj):Prop:=∃v,w.cell? ⟨b,o,none⟩=some v∧IsL 4 Jde w v xs
theorem Gj.keeps:Hb Gj:=fun _ _ _ _ _ hb ⟨v,c,h⟩=>⟨v,Cf hb c,h.below Jde.keeps hb⟩
structure Jcd(l:List PcD)(n:Int):Prop where
 few:l.length≤16384
 chain:Pj l n
 size:n≤2147483647
 bd:∀p∈l,0≤p.at_∧0≤p.size∧p.at_+p.size≤n
 some_:l.length=1∨∀p∈l,1≤p.size
def ansF(r:Option (Int × Int)):Value:=match r with
 |none=> .tuple #[.int .i64 0,.int .i64 0,.bool false]
 |some t=> .tuple #[.int .i64 t.1,.int .i64 t.2,.bool true]
theorem Jrr{l:List PcD}{at_:Int}: -1≤inP l at_∧inP l at_ < (l.length:Int):=⟨(Tm (l:=l) (at_:=at_) l.length).2,(Tm (l:=l) (at_:=at_) l.length).1⟩
theorem Sh{l:List PcD}{at_:Int}:∀k,0≤Ej l at_ k→∃(i:Nat)(p:PcD),Ej l at_ k=(i:Int)∧l[i]?=some p∧p.at_≤at_
 |0,h=>by simp[Ej]at h
 |k+1,h=>by
  unfold Ej at h⊢;cases hq:l[k]? with
  |none=>rw[hq]at h;exact Sh k h
  |some p=>
   rw[hq]at h;simp only at h⊢;cases hh:inB2 l.length at_ k p with
   |true=>
    refine⟨k,p,rfl,hq,?_⟩;unfold inB2 at hh;simp only[Bool.and_eq_true,decide_eq_true_eq]at hh;exact hh.1
   |false=>rw[hh]at h;exact Sh k h
theorem Jau(HPF:Ob)(po pd pf ps:Option Addr)(no co nd cd nf cf cs i k:Nat)(at_ n:Int)(S:List (List Lj))(row:List Lj)(x:Lj)(w:World)(h:Bg 1 Gj w ps S)(hi:S[i]?=some row)(hk:row[k]?=some x)(hx:Jcd x.pcs n)(hf:0≤x.first∧x.first≤1000000000000)(hat:Bn at_)(hkb:k≤1000):
 Calls Tryz.prog 116 #[.agg #[.slice po no co,.slice pd nd cd,.slice pf nf cf,.slice ps S.length cs],.agg #[.int .i64 (i:Int),.int .i64 ((k:Int)+1),.int .i64 at_]] w fun e w'=>e= .returned (ansF (findPc x.pcs x.first.toNat at_))∧Below w.heap.size w w':=by
 have ha:Below w.heap.size w ((w.alloc (.cells #[.slice po no co,.slice pd nd cd,.slice pf nf cf,.slice ps S.length cs] 154)).alloc (.cells #[.int .i64 (i:Int),.int .i64 ((k:Int)+1),.int .i64 at_] 67)):=((Ag _ w).alloc (Af _) _).alloc (by simp) _;have hB0:((w.alloc (.cells #[.slice po no co,.slice pd nd cd,.slice pf nf cf,.slice ps S.length cs] 154)).alloc (.cells #[.int .i64 (i:Int),.int .i64 ((k:Int)+1),.int .i64 at_] 67)).heap[w.heap.size]?=some (.cells #[.slice po no co,.slice pd nd cd,.slice pf nf cf,.slice ps S.length cs] 154 (0,0)):=by
  rw[Below.heap_alloc _ _ _ (by simp)];exact Ah w _
 have hP0:((w.alloc (.cells #[.slice po no co,.slice pd nd cd,.slice pf nf cf,.slice ps S.length cs] 154)).alloc (.cells #[.int .i64 (i:Int),.int .i64 ((k:Int)+1),.int .i64 at_] 67)).heap[w.heap.size+1]?=some (.cells #[.int .i64 (i:Int),.int .i64 ((k:Int)+1),.int .i64 at_] 67 (0,0)):=by
  have:=Ah (w.alloc (.cells #[.slice po no co,.slice pd nd cd,.slice pf nf cf,.slice ps S.length cs] 154)) (.cells #[.int .i64 (i:Int),.int .i64 ((k:Int)+1),.int .i64 at_] 67);simpa using this
 have HS:=Aa (h.below Gj.keeps ha);have hil:i < S.length:=(Ab.1 hi).1;have hkl:k < row.length:=(Ab.1 hk).1;generalize hsn:S.length=sn at*;have HSN:=Aa hsn;have HA:=Aa ha;clear h ha hsn;obtain⟨F,hF⟩:∃F:Nat,x.first=(F:Int):=⟨x.first.toNat,by omega⟩
 obtain⟨r,hr2⟩:∃r,r=inP x.pcs at_:=⟨_,rfl⟩
 have hres:findPc x.pcs x.first.toNat at_=if r < 0 then none else(x.pcs[r.toNat]?).map fun q=>((F:Int)+r,at_ - q.at_):=by unfold findPc;rw[←hr2,hF,Int.toNat_natCast]
 have HRES:=Aa hres;have HFF:=Aa hF;have HR2:=Aa hr2;generalize findPc x.pcs x.first.toNat at_=res at*;rw[hF]at hf;clear hF hres hr2;obtain⟨gb,hgb⟩:∃gb,gb=w.heap.size:=⟨_,rfl⟩
 have HGB:=Aa hgb;go_enter Tryz.func116,Tryz.ntmps116;go_upto_region 1 with fail
 generalize ((w.alloc (.cells #[.slice po no co,.slice pd nd cd,.slice pf nf cf,.slice ps sn cs] 154)).alloc (.cells #[.int .i64 (i:Int),.int .i64 ((k:Int)+1),.int .i64 at_] 67))=w1 at*;have a3:w1.cell? ⟨w.heap.size,3,none⟩=some (.slice ps sn cs):=(Am w1 w.heap.size 3 _ _ (0,0) hB0).trans rfl;obtain⟨⟨b0,b1,b2⟩,_⟩:=Bj _ _ _ _ _ _ hP0;obtain⟨g,og,row',hpe,hrow,v,hcv,pr,cr,rfl,_,_,_,hr⟩:=HS.out.at_ (i:=i) (by rw[HSN.out];exact hil);obtain rfl:row'=row:=by rw[hi]at hrow;cases hrow;rfl
 subst hpe;rw[Nat.mul_one]at hcv;obtain⟨g2,o2,x',hpe2,hx',⟨v2,hc0,pp,cp,rfl,hpc1,hpc2,hpc3,hpl⟩,hc1,hc2,hc3⟩:=hr.at_ (i:=k) hkl;obtain rfl:x'=x:=by rw[hk]at hx';cases hx';rfl
 subst hpe2;have HPL:=Aa hpl;have HXX:=Aa hx;rw[HFF.out]at hc1;obtain⟨gr,hgr⟩:∃gr,gr=x'.group:=⟨_,rfl⟩
 obtain⟨nm,hnm⟩:∃nm,nm=x'.named:=⟨_,rfl⟩
 rw[←hgr]at hc2;rw[←hnm]at hc3;have hfew:=hx.few;have HFI:=Aa fun W (hW:Below w1.heap.size w1 W)=>HPF pp cp x'.pcs n at_ W (hpl.below EPc.keeps hW) hpc1 hpc2 hpc3 hx.few hx.chain hx.size hx.bd hx.some_ hat.1 hat.2;have hgb1:w.heap.size+1 < w1.heap.size:=(Ac.1 hP0).1;have hle:=Jrr (l:=x'.pcs) (at_:=at_);have hhit:=Sh (l:=x'.pcs) (at_:=at_) x'.pcs.length;rw[←HR2.out]at hle HFI;have HHIT:=Aa hhit;obtain⟨pn,hpn⟩:∃pn,pn=x'.pcs.length:=⟨_,rfl⟩
 have HPN:=Aa hpn;rw[←hpn]at hle hc0 hfew;have hatb:=hat;unfold Bn at hatb;have j0:(i:Int) < (sn:Int):=by omega
 have j1:(0:Int)≤(i:Int):=by omega
 have j2:IntKind.i64.wrap ((k:Int)+1 - 1)=(k:Int):=by rw[show(k:Int)+1 - 1=(k:Int) by omega];exact Al _ (by omega)
 have j3:(k:Int) < (row'.length:Int):=by omega
 have j4:(0:Int)≤(k:Int):=by omega
 have j6:IntKind.i64.wrap (k:Int)=(k:Int):=Al _ (by omega);have j7:¬(row'.length:Int)≤(k:Int):=by omega
 have j8:¬(k:Int) < 0:=by omega
 have j9:k < row'.length:=hkl;rw[←hgb]at a3 b0 b1 b2 hgb1⊢;generalize row'.length=rn at*;clear hgr hnm hhit hpn hpl hx hat hB0 hP0 hr hx' hrow hi hk hkl hil hpc1 hpc2 hpc3 hgb;go_cut [7] (fun s7 wx=>∃g7,s7= .pointer (some ⟨g7,0,none⟩)∧wx.heap[g7]?=some (.cells #[.slice pp pn cp,.int .i64 (F:Int),.int .i64 gr,.bool nm] 211 (0,0))∧Below w1.heap.size w1 wx)
 case first=>
  go_region_held (fun W=>W.cell? ⟨gb,3,none⟩=some (.slice (some ⟨g,og,none⟩) sn cs)∧W.cell? ⟨gb+1,0,none⟩=some (.int .i64 (i:Int))∧W.cell? ⟨gb+1,1,none⟩=some (.int .i64 ((k:Int)+1))∧W.cell? ⟨g,og+i,none⟩=some (.slice (some ⟨g2,o2,none⟩) rn cr)∧W.cell? ⟨g2,o2+k*4,none⟩=some (.slice pp pn cp)∧W.cell? ⟨g2,o2+k*4+1,none⟩=some (.int .i64 (F:Int))∧W.cell? ⟨g2,o2+k*4+2,none⟩=some (.int .i64 gr)∧W.cell? ⟨g2,o2+k*4+3,none⟩=some (.bool nm)) (first|exact⟨a3,b0,b1,hcv,hc0,hc1,hc2,hc3⟩|go_keep|fail) (fail)
  all_goals go_wp2_with fail
  all_goals go_meet
  all_goals exact⟨_,rfl,Ah w1 _,((Ag _ w1).alloc (Af _) _).drew⟩
 case rest=>
  obtain⟨g7,rfl,h7,hb7⟩:=hcut;have d0:wc.cell? ⟨g7,0,none⟩=some (.slice pp pn cp):=(Am wc g7 0 _ _ (0,0) h7).trans rfl;have d1:wc.cell? ⟨g7,1,none⟩=some (.int .i64 (F:Int)):=(Am wc g7 1 _ _ (0,0) h7).trans rfl;have b2':=Ax hb7 b2;have HFX:=Aa (HFI.out wc hb7);have HB7:=Aa hb7;rw[←HPN.out]at HFX;clear a3 b0 b1 b2 hcv hc0 hc1 hc2 hc3 h7 HFI hb7 j0 j1 j2 j3 j4 j6 j7 j8 j9
  go_upto_region 3 with(first|(go_at_call 166
                               refine HFX.out.mono ?_
                               rintro e w8 ⟨rfl,hb8⟩)|fail)
  have hbw:Below gb w w8:=by
   rw[HGB.out];exact HA.out.trans ((HB7.out.trans (hb8.mono HB7.out.size)).mono HA.out.size)
  by_cases hr:r < 0
  ·have hres:Hid (res=none):=Aa (by rw[HRES.out,if_pos hr]);go_wp2_with fail
   rw[hres.out];exact bodyPost_ret (v:= .tuple #[.int .i64 0,.int .i64 0,.bool false]) (by simp[results,Tryz.results116,go_sem]) rfl ⟨rfl,by first|exact hbw|(rw[←HGB.out];exact hbw)⟩
  ·obtain⟨t,q,ht,hq,hqa⟩:=HHIT.out (by have:=HR2.out;unfold inP at this;omega);have hrt:r=(t:Int):=HR2.out.trans ht;have hres:Hid (res=some ((F:Int)+(t:Int),at_ - q.at_)):=Aa (by rw[HRES.out,if_neg hr,hrt,Int.toNat_natCast,hq];rfl);have hqb:=HXX.out.bd q (Ad hq);have htl:t < pn:=by rw[HPN.out];exact(Ab.1 hq).1
   obtain⟨b5,o5,q',hp5,hq',hqc,_⟩:=(HPL.out.below EPc.keeps (HB7.out.trans (hb8.mono HB7.out.size))).at_ (i:=t) (by rw[←HPN.out];exact htl);obtain rfl:q'=q:=by rw[hq]at hq';cases hq';rfl
   have hqc0:=hqc.1;subst hp5;subst hrt;have d0':=Ax hb8 d0;have d1':=Ax hb8 d1;have b2'':=Ax hb8 b2';have m1:IntKind.i64.wrap ((F:Int)+(t:Int))=(F:Int)+(t:Int):=Al _ (by omega);have m2:IntKind.i64.wrap (at_ - q'.at_)=at_ - q'.at_:=Al _ (by omega);have m3:(t:Int) < (pn:Int):=by omega
   have m4:(0:Int)≤(t:Int):=by omega
   have m5:¬(t:Int) < 0:=by omega
   clear hq hq' hqc d0 d1 b2' hb8;go_upto_region 5 with fail
   go_quiet (fail);go_wp2_with fail
   rw[hres.out];exact bodyPost_ret (v:= .tuple #[.int .i64 ((F:Int)+(t:Int)),.int .i64 (at_ - q'.at_),.bool true]) (by simp[results,Tryz.results116,go_sem]) rfl ⟨rfl,by first|exact Bq hbw _|(rw[←HGB.out];exact Bq hbw _)⟩
structure Fu where
 (x:Lj)
 (p:Value)
def Fu.cells(s:Fu):List Value:= [s.p,.int .i64 s.x.first,.int .i64 s.x.group,.bool s.x.named]
def Fu.ok(s:Fu)(N:Nat)(w:World):Prop:=w.ownsRow N 213 2 s.p s.x.pcs.length (pcV s.x.pcs)∧∀p∈s.x.pcs,p.bd
theorem Fu.ok.fr{s:Fu}{N M:Nat}{Ts:List TypeId}{w w':World}(h:s.ok N w)(hf:FrT M Ts w w')(h1:213∉Ts):s.ok N w':=⟨hf.owns h.1 h1,h.2⟩
abbrev Lf:=Nat→Nat→Ca→Lj
abbrev Dt (b n:Nat):Value:= .slice (some ⟨b,0,none⟩) n n
structure Dr(N:Nat)(w:World)(g0:Nat)(vs:List Value)(l:List Az)(f:Lf)(n:Nat):Prop where
 tab:w.ownsRow N 208 1 (Dt g0 l.length) l.length vs
 row:∀i o,i < n→l[i]?=some o→∃(b:Nat)(row:List Fu),vs[i]?=some (Dt b o.secs.length)∧w.ownsRow N 211 4 (Dt b o.secs.length) o.secs.length (row.flatMap Fu.cells)∧(∀x∈row,x.ok N w)∧row.map Fu.x=o.secs.mapIdx (f i)
 apart:∀i j b c m k,i < n→j < n→vs[i]?=some (Dt b m)→vs[j]?=some (Dt c k)→i≠j→b≠c
theorem Dr.fr{N M g0 n:Nat}{w w':World}{vs:List Value}{l:List Az}{f:Lf}{Ts:List TypeId}(h:Dr N w g0 vs l f n)(hf:FrT M Ts w w')(h1:213∉Ts)(h2:211∉Ts)(h3:208∉Ts):Dr N w' g0 vs l f n:=
 ⟨hf.owns h.tab h3,fun i o hi ho=>by
  obtain⟨b,row,e1,e2,e3,e4⟩:=h.row i o hi ho
  exact⟨b,row,e1,hf.owns e2 h2,fun x hx=>(e3 x hx).fr hf h1,e4⟩,h.apart⟩
theorem Dr.below{N g0 n:Nat}{w w':World}{vs:List Value}{l:List Az}{f:Lf}(h:Dr N w g0 vs l f n)(hb:Below w.heap.size w w'):Dr N w' g0 vs l f n:=
 h.fr (FrT.of_below (N:=0) (Ts:= []) hb) (by simp) (by simp) (by simp)
theorem Dr.congr{N g0 n:Nat}{w:World}{vs:List Value}{l:List Az}{f g:Lf}(h:Dr N w g0 vs l f n)(he:∀i k o s,l[i]?=some o→o.secs[k]?=some s→f i k s=g i k s):Dr N w g0 vs l g n:=
 ⟨h.tab,fun i o hi ho=>by
  obtain⟨b,row,e1,e2,e3,e4⟩:=h.row i o hi ho;refine⟨b,row,e1,e2,e3,e4.trans ?_⟩;apply List.ext_getElem?;intro k;rw[List.getElem?_mapIdx,List.getElem?_mapIdx];cases hs:o.secs[k]? with
  |none=>rfl
  |some s=>simp only[Option.map_some,he i k o s ho hs],h.apart⟩
theorem Dr.size{N g0 n:Nat}{w:World}{vs:List Value}{l:List Az}{f:Lf}(h:Dr N w g0 vs l f n):N≤g0∧g0 < w.heap.size:=h.tab.lt g0 rfl
def Ls(f:Lf)(i k:Nat)(x:Lj):Lf:=fun i' k' s=>if i'=i∧k'=k then x else f i' k' s
theorem Dr.blk{N g0 n i:Nat}{w:World}{vs:List Value}{l:List Az}{f:Lf}{o:Az}(h:Dr N w g0 vs l f n)(hi:i < n)(ho:l[i]?=some o):∃b,vs[i]?=some (Dt b o.secs.length):=by
 obtain⟨b,row,hv,_⟩:=h.row i o hi ho;exact⟨b,hv⟩
theorem Dr.cell{N g0 n i b:Nat}{w:World}{vs:List Value}{l:List Az}{f:Lf}{o:Az}(h:Dr N w g0 vs l f n)(ho:l[i]?=some o)(hv:vs[i]?=some (Dt b o.secs.length)):w.cell? ⟨g0,i,none⟩=some (.slice (some ⟨b,0,none⟩) o.secs.length o.secs.length):=by
 have hil:i < l.length:=(Ab.1 ho).1;rw[h.tab.cellAt i (by omega),hv]
theorem Dr.at_{N g0 n i b k:Nat}{w:World}{vs:List Value}{l:List Az}{f:Lf}{o:Az}{s:Ca}{x:Lj}(h:Dr N w g0 vs l f n)(hi:i < n)(ho:l[i]?=some o)(hv:vs[i]?=some (Dt b o.secs.length))(hs:o.secs[k]?=some s)(hf:f i k s=x):
 N≤b∧b < w.heap.size∧(∀j,w.frozen? ⟨b,j,none⟩=false)∧
  ∃p,w.cell? ⟨b,k*4,none⟩=some p∧w.cell? ⟨b,k*4+1,none⟩=some (.int .i64 x.first)∧w.cell? ⟨b,k*4+2,none⟩=some (.int .i64 x.group)∧w.cell? ⟨b,k*4+3,none⟩=some (.bool x.named)∧Fu.ok ⟨x,p⟩ N w∧
   (∀v,Dr N (w.setCell ⟨b,k*4+1,none⟩ (.int .i64 v)) g0 vs l (Ls f i k ⟨x.pcs,v,x.group,x.named⟩) n∧FrT N [211] w (w.setCell ⟨b,k*4+1,none⟩ (.int .i64 v)))∧
   (∀v,Dr N (w.setCell ⟨b,k*4+2,none⟩ (.int .i64 v)) g0 vs l (Ls f i k ⟨x.pcs,x.first,v,x.named⟩) n∧FrT N [211] w (w.setCell ⟨b,k*4+2,none⟩ (.int .i64 v)))∧
   (∀v,Dr N (w.setCell ⟨b,k*4+3,none⟩ (.bool v)) g0 vs l (Ls f i k ⟨x.pcs,x.first,x.group,v⟩) n∧FrT N [211] w (w.setCell ⟨b,k*4+3,none⟩ (.bool v)))∧
   (∀q pcs,Fu.ok ⟨⟨pcs,x.first,x.group,x.named⟩,q⟩ N w→Dr N (w.setCell ⟨b,k*4,none⟩ q) g0 vs l (Ls f i k ⟨pcs,x.first,x.group,x.named⟩) n∧FrT N [211] w (w.setCell ⟨b,k*4,none⟩ q)):=by
 obtain⟨b',row,hv',hr,hx,hm⟩:=h.row i o hi ho;obtain rfl:b'=b:=by rw[hv]at hv';cases hv';rfl
 clear hv';have hlt:=hr.lt b' rfl;have hrl:row.length=o.secs.length:=by have:=congrArg List.length hm;simpa using this
 refine⟨hlt.1,hlt.2,fun j=>hr.frozenAt j,?_⟩;have hk:k < o.secs.length:=(Ab.1 hs).1;obtain⟨y,hxk⟩:∃y,row[k]?=some y:=⟨_,Ae (by omega)⟩
 have hfx:y.x=x:=by
  have e1:=congrArg (fun z=>z[k]?) hm;simp only[List.getElem?_map,List.getElem?_mapIdx,hxk,hs,Option.map_some,Option.some.injEq]at e1;exact e1.trans hf
 have hcell:∀j u,y.cells[j]?=some u→(row.flatMap Fu.cells)[k*4+j]?=some u:=fun j u hj=>Ks (k:=4) (fun _=>rfl) row k y j u hxk hj;have hc:∀j u,y.cells[j]?=some u→w.cell? ⟨b',k*4+j,none⟩=some u:=fun j u hj=>by
  have hj4:j < 4:=(Ab.1 hj).1;rw[hr.cellAt _ (by omega),hcell j u hj]
 have hok:=hx y (Ad hxk);have key:∀(j:Nat)(u:Value)(z0:Fu),z0.cells=y.cells.set j u→j < 4→z0.ok N w→Dr N (w.setCell ⟨b',k*4+j,none⟩ u) g0 vs l (Ls f i k z0.x) n∧FrT N [211] w (w.setCell ⟨b',k*4+j,none⟩ u):=fun j u z0 hy hj hyo=>by
  have hst:=hr.stored (k*4+j) u;have hfr:FrT N [211] w (w.setCell ⟨b',k*4+j,none⟩ u):=FrT.grown hr (show w.grownBy _ (some b') from hst.2) (by simp) (Af _);refine⟨⟨hfr.owns h.tab (by decide),fun i' o' hi' ho'=>?_,h.apart⟩,hfr⟩;by_cases hii:i'=i
  ·subst hii;rw[ho]at ho';cases ho';refine⟨b',row.set k z0,hv,?_,fun z hz=>?_,?_⟩
   ·have e:(row.set k z0).flatMap Fu.cells=(row.flatMap Fu.cells).set (k*4+j) u:=by
     apply List.ext_getElem?;intro t;have hdm:=Nat.div_add_mod t 4;have hm4:t % 4 < 4:=Nat.mod_lt _ (by omega);by_cases ht:t / 4 < row.length
     ·obtain⟨z,hz⟩:∃z,(row.set k z0)[t / 4]?=some z:=⟨_,Ae (by rw[List.length_set];exact ht)⟩
      obtain⟨q,hq⟩:∃q,z.cells[t % 4]?=some q:=⟨_,Ae (show t % 4 < 4 from hm4)⟩
      have e1:=Ks (k:=4) (f:=Fu.cells) (fun _=>rfl) (row.set k z0) (t / 4) z (t % 4) q hz hq;rw[show t / 4*4+t % 4=t by omega]at e1;rw[e1,List.getElem?_set];rw[List.getElem?_set]at hz;by_cases hkt:k=t / 4
      ·rw[if_pos hkt,if_pos (by omega)]at hz;cases hz;rw[hy,List.getElem?_set]at hq;by_cases hjt:j=t % 4
       ·rw[if_pos hjt,if_pos (show j < y.cells.length from hj)]at hq;rw[if_pos (by omega),if_pos (by rw[Qb (k:=4) (fun _=>rfl)];omega)];exact hq.symm
       ·rw[if_neg hjt]at hq;rw[if_neg (by omega)];have:=hcell (t % 4) q hq;rw[hkt,show t / 4*4+t % 4=t by omega]at this;exact this.symm
      ·rw[if_neg hkt]at hz;rw[if_neg (by omega)];have e2:=Ks (k:=4) (f:=Fu.cells) (fun _=>rfl) row (t / 4) z (t % 4) q hz hq;rw[show t / 4*4+t % 4=t by omega]at e2;exact e2.symm
     ·rw[List.getElem?_eq_none (by rw[Qb (k:=4) (fun _=>rfl),List.length_set];omega),List.getElem?_eq_none (by rw[List.length_set,Qb (k:=4) (fun _=>rfl)];omega)]
    rw[e];exact hst.1
   ·rcases List.mem_or_eq_of_mem_set hz with hz|rfl
    ·exact(hx z hz).fr hfr (by decide)
    ·exact hyo.fr hfr (by decide)
   ·rw[List.map_set,hm];apply List.ext_getElem?;intro t;rw[List.getElem?_set,List.getElem?_mapIdx,List.getElem?_mapIdx];by_cases hkt:k=t
    ·subst hkt;rw[if_pos rfl,if_pos (by simpa using hk),hs];simp[Ls]
    ·rw[if_neg hkt];cases o.secs[t]? with
     |none=>rfl
     |some z=>simp[Ls,show¬t=k from fun e=>hkt e.symm]
  ·obtain⟨b2,row',e1,e2,e3,e4⟩:=h.row i' o' hi' ho';refine⟨b2,row',e1,?_,fun z hz=>(e3 z hz).fr hfr (by decide),e4.trans ?_⟩
   ·refine e2.kept hst.2 (.inr ?_);simp only[Value.ownBlock,ne_eq,Option.some.injEq];exact h.apart i' i b2 b' _ _ hi' hi e1 hv hii
   ·apply List.ext_getElem?;intro t;rw[List.getElem?_mapIdx,List.getElem?_mapIdx];cases o'.secs[t]? with
    |none=>rfl
    |some z=>simp[Ls,hii]
 obtain⟨y0,y1⟩:=y;simp only at hfx;subst hfx;exact⟨y1,hc 0 _ rfl,hc 1 _ rfl,hc 2 _ rfl,hc 3 _ rfl,hok,fun v=>key 1 _ ⟨⟨_,v,_,_⟩,y1⟩ rfl (by omega) hok,fun v=>key 2 _ ⟨⟨_,_,v,_⟩,y1⟩ rfl (by omega) hok,fun v=>key 3 _ ⟨⟨_,_,_,v⟩,y1⟩ rfl (by omega) hok,fun q pcs hq=>key 0 q ⟨⟨pcs,_,_,_⟩,q⟩ rfl (by omega) hq⟩
theorem Jgr(f:Lf)(i k:Nat)(x:Lj)(s:Ca):Ls f i k x i k s=x:=by simp[Ls]
theorem Dr.rows{N g0:Nat}{w:World}{vs:List Value}{l:List Az}{f:Lf}(h:Dr N w g0 vs l f l.length):Bg 1 Gj w (some ⟨g0,0,none⟩) (l.mapIdx fun i o=>o.secs.mapIdx (f i)):=fun i x hx=>by
 rw[List.getElem?_mapIdx]at hx;cases ho:l[i]? with
 |none=>rw[ho]at hx;cases hx
 |some o=>
  rw[ho]at hx;cases hx;have hil:i < l.length:=(Ab.1 ho).1;obtain⟨b,row,hv,hr,hx,hm⟩:=h.row i o hil ho;have hrl:row.length=o.secs.length:=by have:=congrArg List.length hm;simpa using this
  refine⟨g0,0,rfl,Dt b o.secs.length,by rw[Nat.zero_add,Nat.mul_one,h.tab.cellAt i (by omega),hv],?_⟩;rw[←hrl]at hr⊢;have:=Mo (k:=4) (E:=Jde) (f:=Fu.cells) (g:=Fu.x) (fun _=>rfl) hr (fun x hxx b o hc=>⟨⟨x.p,hc 0 _ rfl,Jjk (hx x hxx).1 (hx x hxx).2⟩,hc 1 _ rfl,hc 2 _ rfl,hc 3 _ rfl⟩);rw[hm]at this;exact this
theorem Ns{w:World}{p:Option Addr}{l:List Az}(h:Bg 5 Cg w p l):∀o∈l,∀y∈o.syms,Bn y.value:=fun o ho y hy=>by
 obtain⟨i,hi⟩:=Av ho;obtain⟨k,hk⟩:=Av hy;obtain⟨b,off,v0,v1,v2,v4,_,_,_,_,_,_,hp⟩:=h i o hi;obtain⟨p1,c1,_,_,_,_,hq⟩:=hp.2.1;obtain⟨_,_,_,_,_,_,_,e4,_⟩:=hq k y hk;exact e4.2
def Kw(l:List Az)(x:Cq):Prop:=Bn x.at_∧(x.sec=0∨∃(i k:Nat)(o:Az)(s:Ca),x=⟨(i:Int),(k:Int)+1,x.at_⟩∧l[i]?=some o∧o.secs[k]?=some s)
theorem Jka{l:List Az}{D:List (List Bool)}{i:Nat}{o:Az}{y:Ct}(hok:OkD o)(hv:Bn y.value)(hi:l[i]?=some o)(hy:y∈o.syms):Kw l (Hj D i y).1:=by
 have h0:Bn 0:=by unfold Bn;omega
 unfold Hj;cases hd:decide (y.sec < 1)with
 |true=>exact⟨hv,.inl rfl⟩
 |false=>
  have hs:=of_decide_eq_false hd;have hb:=(hok.sec y hy).2;cases hq:(Cz D i)[(y.sec - 1).toNat]?.getD false with
  |true=>exact⟨h0,.inl rfl⟩
  |false=>
   obtain⟨k,hk⟩:∃k:Nat,y.sec=(k:Int)+1:=⟨(y.sec - 1).toNat,by omega⟩
   exact⟨hv,.inr ⟨i,k,o,o.secs[k]'(by omega),by simp[hk],hi,Ae (by omega)⟩⟩
theorem Le{l:List Az}{D:List (List Bool)}{o s:Int}(hok:∀o∈l,OkD o)(hv:∀o∈l,∀y∈o.syms,Bn y.value):Kw l (Ck l D o s).1:=by
 have h0:Kw l ⟨0,0,0⟩:=⟨by show Bn 0;unfold Bn;omega,.inl rfl⟩
 have hown:∀(i k:Nat)(y:Ct),symAt2 l i k=some y→Kw l (Hj D i y).1:=fun i k y h=>by
  unfold symAt2 at h;cases hq:l[i]? with
  |none=>rw[hq]at h;cases h
  |some ob=>
   rw[hq]at h;have hm:=Ad hq;have hy:=Ad h;exact Jka (hok ob hm) (hv ob hm y hy) hq hy
 unfold Ck;split
 ·exact h0
 ·cases hx:symAt2 l o.toNat s.toNat with
  |none=>exact h0
  |some x=>
   show Kw l (Hw l D o.toNat x).1;unfold Hw;cases (x.bind==0)with
   |true=>exact hown _ _ _ hx
   |false=>
    simp only[cond_false];cases findIn (Bc Az.syms l l.length) D x.name with
    |none=>cases (x.bind==2)<;>exact h0
    |some d=>
     simp only;cases hq:symAt2 l d.obj d.sym with
     |none=>exact h0
     |some y=>exact hown _ _ _ hq
def Mp(a b:ByteArray):Int:=Lib.compareBytes a.data.toList b.data.toList
theorem Zi:∀x y:List UInt8,(Lib.compareBytes x y < 0 ↔ x < y)∧(Lib.compareBytes x y=0 ↔ x=y)∧(-1≤Lib.compareBytes x y∧Lib.compareBytes x y≤1)
 | [], []=>by simp[Lib.compareBytes]
 | [],b::y=>by simp[Lib.compareBytes]
 |a::x, []=>by simp[Lib.compareBytes]
 |a::x,b::y=>by
  obtain⟨h1,h2,h3⟩:=Zi x y;unfold Lib.compareBytes;rw[List.cons_lt_cons_iff];by_cases hab:a < b
  ·rw[if_pos hab];have hne:a≠b:=fun e=>by subst e;exact absurd hab (UInt8.lt_irrefl a)
   refine⟨⟨fun _=> .inl hab,fun _=>by decide⟩,⟨(fun h=>by cases h),fun h=>absurd (List.cons.inj h).1 hne⟩,by decide⟩
  ·rw[if_neg hab];by_cases hba:b < a
   ·rw[if_pos hba];have hne:a≠b:=fun e=>by subst e;exact absurd hba (UInt8.lt_irrefl a)
    refine⟨⟨fun h=>by omega,fun h=>?_⟩,⟨(fun h=>by cases h),fun h=>absurd (List.cons.inj h).1 hne⟩,by decide⟩;rcases h with h|⟨h,_⟩
    ·exact absurd h hab
    ·exact absurd h hne
   ·rw[if_neg hba];have he:a=b:=UInt8.le_antisymm (UInt8.not_lt.1 hba) (UInt8.not_lt.1 hab);subst he;refine⟨?_,?_,h3⟩
    ·rw[h1];exact⟨fun h=> .inr ⟨rfl,h⟩,fun h=>h.elim (fun h=>absurd h hab) fun h=>h.2⟩
    ·rw[h2];simp
theorem Se{a b:ByteArray}:Mp a b < 0 ↔ sLt a b=true:=by
 rw[Lu];exact(Zi _ _).1
theorem Jab{a b:ByteArray}:Mp a b=0 ↔ a=b:=by
 unfold Mp;rw[(Zi _ _).2.1];exact⟨fun h=>ByteArray.ext (Array.ext' h),fun h=>by rw[h]⟩
theorem Jb7(a b:ByteArray)(w:World):Calls Tryz.prog 111 #[.string a,.string b] w fun e w'=>e= .returned (.int .i64 (Mp a b))∧w=w':=by
 go_enter Tryz.func111,Tryz.ntmps111;go_wp2_with fail
 rw[run_callFunc_extern Tryz.func162 (by kernel_rfl) (by kernel_rfl) (by kernel_rfl) (e:=Extern.BytealgCompare.compare) (by kernel_rfl),Lib.run_compareString];simp only[Result.andThen];rw[Oper.upon_value];go_wp2_with fail
 go_ret;exact⟨rfl,rfl⟩
theorem Wk(a b:ByteArray)(w:World):Calls Tryz.prog 62 #[.string a,.string b] w fun e w'=>e= .returned (.int .i64 (Mp a b))∧w=w':=by
 have HC:=Aa (Jb7 a b w);go_enter Tryz.func62,Tryz.ntmps62;go_wp2_with fail
 refine HC.out.mono ?_;rintro e w' ⟨rfl,rfl⟩;go_wp2_with fail
 go_ret;exact⟨rfl,rfl⟩
theorem Jfh(d:Bb)(name:ByteArray)(w:World):Calls Tryz.prog 61 #[.agg (Dh d),.string name] w fun e w'=>e= .returned (.int .i64 (Mp d.name name))∧Below w.heap.size w w':=by
 have hb:Below w.heap.size w (w.alloc (.cells (Dh d) 60)):=(Ag _ w).alloc (Af _) _;obtain⟨⟨x0,x1,x2⟩,_⟩:=Bj _ _ _ _ _ _ (Ah w (.cells (Dh d) 60));have HC:=Aa fun W=>Wk d.name name W;go_enter Tryz.func61,Tryz.ntmps61;go_upto_region 1 with fail
 generalize w.alloc (.cells (Dh d) 60)=w1 at*;go_wp2_with fail
 refine(HC.out _).mono ?_;rintro e w' ⟨rfl,rfl⟩;go_wp2_with fail
 go_ret;exact⟨rfl,hb⟩
def cntLt(l:List Bb)(name:ByteArray):Nat:=l.countP fun d=>sLt d.name name
theorem Uh{l:List Bb}{name:ByteArray}(h:Dz l):∀i d,l[i]?=some d→(i < cntLt l name ↔ sLt d.name name=true):=by
 induction l with
 |nil=>intro i d hd;simp at hd
 |cons x l ih=>
  obtain⟨h1,h2⟩:=List.pairwise_cons.1 h;intro i d hd;have e:cntLt (x::l) name=cntLt l name+if sLt x.name name=true then 1 else 0:=by
   unfold cntLt;rw[List.countP_cons]
  rw[e];cases hx:sLt x.name name with
  |true=>
   match i,hd with
   |0,hd=>simp at hd;subst hd;simp[hx]
   |i+1,hd=>
    have:=ih h2 i d (by simpa using hd);rw[if_pos rfl,←this];omega
  |false=>
   have hz:cntLt l name=0:=by
    unfold cntLt;rw[List.countP_eq_zero];intro y hy hlt;have:=Oq (h1 y hy) hlt;rw[hx]at this;cases this
   rw[hz];simp only[Bool.false_eq_true,if_false,Nat.add_zero];constructor
   ·intro h;omega
   ·intro hlt
    match i,hd with
    |0,hd=>simp at hd;subst hd;rw[hx]at hlt;cases hlt
    |i+1,hd=>
     have:=(ih h2 i d (by simpa using hd)).2 hlt;omega
def Hc(l:List Bb)(name:ByteArray):Option Bb:=l.find? fun e=>sEq e.name name
theorem Jco{l:List Bb}{name:ByteArray}(h:Dz l):Hc l name=match l[cntLt l name]? with
 |some d=>bif sEq d.name name then some d else none
 |none=>none:=by
 have hap:Iw l:=h.imp fun{a b} hab he=>by rw[he,Gw]at hab;cases hab
 have hno:∀e,Hc l name=some e→l[cntLt l name]?=some e:=fun e he=>by
  have hn:=Qr he;obtain⟨j,hj⟩:=List.mem_iff_getElem?.1 (List.mem_of_find?_eq_some he);have h1:=Uh (name:=name) h j e hj;rw[hn,Gw]at h1;have h2:¬j < cntLt l name:=fun hh=>by have:=h1.1 hh;cases this
  rcases Nat.lt_or_ge (cntLt l name) j with hlt|hge
  ·have hl:cntLt l name < l.length:=by have:=(Ab.1 hj).1;omega
   have h3:=List.pairwise_iff_getElem.1 h (cntLt l name) j hl (Ab.1 hj).1 hlt;rw[(Ab.1 hj).2,hn]at h3;have h4:=(Uh (name:=name) h (cntLt l name) _ (Ae hl)).2 h3;omega
  ·rw[show cntLt l name=j by omega];exact hj
 cases hq:Hc l name with
 |some e=>rw[hno e hq];simp only;rw[Qr hq,Ig];rfl
 |none=>
  cases hc:l[cntLt l name]? with
  |none=>rfl
  |some d=>
   simp only;cases he:sEq d.name name with
   |false=>rfl
   |true=>
    have:=List.find?_eq_none.1 hq d (Ad hc);exact absurd he this
theorem Jfk(p:Option Addr)(n c:Nat)(l:List Bb)(name:ByteArray)(w:World)(h:Bg 3 Dg w p l)(hn:l.length=n)(hnb:n≤100000)(hs:Dz l):
 Calls Tryz.prog 60 #[.slice p n c,.string name,.func (.func 61) #[] #[]] w fun e w'=>e= .returned (.tuple #[.int .i64 (cntLt l name:Int),.bool (Hc l name).isSome])∧Below w.heap.size w w':=by
 have HF:=Aa fun d W=>Jfh d name W;have HC:=Aa fun i d (hd:l[i]?=some d)=>Uh (name:=name) hs i d hd;have hk:cntLt l name≤n:=by rw[←hn];exact List.countP_le_length
 have HFL:=Aa (Jco (name:=name) hs);have HH:=Aa h;have HN:=Aa hn;obtain⟨fs,hfs⟩:∃fs,fs=Hc l name:=⟨_,rfl⟩
 rw[←hfs]at HFL⊢;generalize hkk:cntLt l name=k at*;clear h hn hs hfs hkk;go_enter Tryz.func60,Tryz.ntmps60;go_wp2_with fail
 go_loopw [9,10] (fun r9 r10 wr=>∃lo hi:Nat,lo≤k∧k≤hi∧hi≤n∧r9= .int .i64 (lo:Int)∧r10= .int .i64 (hi:Int)∧Below w.heap.size w wr) (fun r9 r10 _=>(intOf r10).toNat - (intOf r9).toNat)
 case atStart=>exact⟨0,n,Ak _,hk,Af _,rfl,rfl,Ag _ _⟩
 case round=>
  obtain⟨lo,hi,h1,h2,h3,rfl,rfl,hb⟩:=hrel;by_cases hlt:lo < hi
  ·have hm1:lo≤(lo+hi) / 2:=by omega
   have hm2:(lo+hi) / 2 < hi:=by omega
   have HM:=Aa (show((lo:Int)+(hi:Int)) / 2=(((lo+hi) / 2:Nat):Int) by omega);generalize (lo+hi) / 2=m at*;obtain⟨b,off,d,hpe,hd,f0,f1,f2⟩:=(HH.out.below Dg.keeps hb).at_ (i:=m) (by rw[HN.out];omega);subst hpe;have hcm:=HC.out m d hd;have HCF:=Aa fun W=>HF.out d W;have hj1:((lo:Int)+(hi:Int)) / 2 < (n:Int):=by rw[HM.out];omega
   have hj0:(0:Int)≤((lo:Int)+(hi:Int)) / 2:=by rw[HM.out];omega
   have hj2:(((lo:Int)+(hi:Int)) / 2).toNat=m:=by rw[HM.out];omega
   clear hd;cases hp:sLt d.name name with
   |true=>
    have hcl:Mp d.name name < 0:=Se.2 hp;have HP:=Aa (hcm.2 hp);clear hp hcm;go_wp2_with fail
    refine(HCF.out _).mono ?_;rintro e w' ⟨rfl,hb2⟩;have hb3:=hb.trans (hb2.mono hb.size);have kw:IntKind.i64.wrap (((lo:Int)+(hi:Int)) / 2+1)=((lo:Int)+(hi:Int)) / 2+1:=Al _ (by have:=HM.out;omega);clear hb hb2 f0 f1 f2 hj1 hj0 hj2;go_wp2_with fail
    go_roundw
    case rel=>exact⟨m+1,hi,by have:=HP.out;omega,h2,h3,by rw[HM.out];go_num,rfl,hb3⟩
    case measure=>simp[intOf];omega
   |false=>
    have hcl:¬Mp d.name name < 0:=fun hh=>by rw[Se.1 hh]at hp;cases hp
    have hkm:k≤m:=by
     rcases Nat.lt_or_ge m k with hh|hh
     ·rw[hcm.1 hh]at hp;cases hp
     ·exact hh
    have HP:=Aa hkm;clear hp hcm hkm;go_wp2_with fail
    refine(HCF.out _).mono ?_;rintro e w' ⟨rfl,hb2⟩;have hb3:=hb.trans (hb2.mono hb.size);clear hb hb2 f0 f1 f2 hj1 hj0 hj2;go_wp2_with fail
    go_roundw
    case rel=>exact⟨lo,m,h1,HP.out,by omega,rfl,by rw[HM.out],hb3⟩
    case measure=>simp[intOf];omega
  ·have e:lo=k:=by omega
   subst e;have hlh:¬(lo:Int) < (hi:Int):=by omega
   by_cases hln:lo < n
   ·obtain⟨b,off,d,hpe,hd,f0,f1,f2⟩:=(HH.out.below Dg.keeps hb).at_ (i:=lo) (by rw[HN.out];omega);subst hpe;have hl1:(lo:Int) < (n:Int):=by omega
    have hl0:(0:Int)≤(lo:Int):=by omega
    have hfl:=HFL.out;rw[hd]at hfl;have HCF:=Aa fun W=>HF.out d W;obtain⟨q,hq⟩:∃q,q=sEq d.name name:=⟨_,rfl⟩
    have hq2:(Mp d.name name==0)=q:=by
     rw[hq];cases he:sEq d.name name with
     |true=>exact beq_iff_eq.2 (Jab.2 (Df.1 he))
     |false=>exact beq_eq_false_iff_ne.2 fun hh=>by rw[Jab.1 hh,Ig]at he;cases he
    have hE:Hid (fs.isSome=q):=Aa (by rw[hfl];simp only;rw[←hq];cases q<;>rfl);clear hd hfl hq;go_wp2_with fail
    refine(HCF.out _).mono ?_;rintro e w' ⟨rfl,hb2⟩;have hb3:=hb.trans (hb2.mono hb.size);clear hb hb2 f0 f1 f2;go_wp2_with fail
    go_ret2;exact⟨by rw[hE.out];rfl,hb3⟩
   ·have hl1:¬(lo:Int) < (n:Int):=by omega
    have hE:Hid (fs.isSome=false):=Aa (by rw[HFL.out,List.getElem?_eq_none (by rw[HN.out];omega)];rfl);go_wp2_with fail
    go_ret2;exact⟨by rw[hE.out];rfl,hb⟩
theorem Jdd{fn:Func}{p u:Tmp}(h:fn.results= #[.cell p 60,.tmp u])(tmps:Array Value)(w:World)(g:Nat)(v0 v1 v2 b:Value)(hp:tmps.getD p undef= .pointer (some ⟨g,0,none⟩))(hu:tmps.getD u undef=b)
 (hg:w.heap[g]?=some (.cells #[v0,v1,v2] 60 (0,0))):(results fn tmps).run Tryz.prog w= .ok (.tuple #[.agg #[v0,v1,v2],b]) w:=by
 obtain⟨⟨r0,r1,r2⟩,_⟩:=Bj _ _ _ _ _ _ hg;rw[results_cell_tmp h,hp,hu];go_simp
theorem Jas{tmps:Array Value}{W w:World}{B:Nat}{r:Option Bb}{x:Bb}{q:Bool}(h4:tmps.getD 4 undef= .pointer (some ⟨B+1,0,none⟩))(h5:tmps.getD 5 undef= .bool q)(hB:w.heap.size=B)
 (hR:W.heap[B+1]?=some (.cells (Dh x) 60 (0,0)))(hb:Below B w W)(he:r.getD noDef=x∧r.isSome=q):bodyPost Tryz.prog Tryz.f23 (fun e w'=>e= .returned (.tuple #[.agg (Dh (r.getD noDef)),.bool r.isSome])∧Below w.heap.size w w') Exit.ret ⟨tmps, []⟩ W:=by
 subst hB;obtain⟨rfl,rfl⟩:=he;exact bodyPost_ret (Jdd rfl _ _ _ _ _ _ _ h4 h5 hR) rfl ⟨rfl,hb⟩
theorem Jba(p:Option Addr)(n c:Nat)(vD:Value)(l:List Bb)(name:ByteArray)(w:World)(h:Bg 3 Dg w p l)(hn:l.length=n)(hnb:n≤100000)(hs:Dz l):
 Calls Tryz.prog 23 #[.agg #[vD,.slice p n c],.string name] w fun e w'=>e= .returned (.tuple #[.agg (Dh ((Hc l name).getD noDef)),.bool (Hc l name).isSome])∧Below w.heap.size w w':=by
 obtain⟨wa,hwa⟩:∃wa,wa=w.alloc (.cells #[vD,.slice p n c] 49):=⟨_,rfl⟩
 obtain⟨wb,hwb⟩:∃wb,wb=wa.alloc (.cells #[.string ⟨#[]⟩,.int .i64 0,.int .i64 0] 60):=⟨_,rfl⟩
 have ha:Below w.heap.size w wa:=by rw[hwa];exact(Ag _ w).alloc (Af _) _
 have hb:Below wa.heap.size wa wb:=by rw[hwb];exact(Ag _ wa).alloc (Af _) _
 have sa:wa.heap.size=w.heap.size+1:=by rw[hwa];simp
 have sb:wb.heap.size=w.heap.size+2:=by rw[hwb];simp[sa]
 have hA0:wa.heap[w.heap.size]?=some (.cells #[vD,.slice p n c] 49 (0,0)):=by rw[hwa];exact Ah w _
 have hAb:=(hb.block _ (by omega)).trans hA0;have hRb:wb.heap[wa.heap.size]?=some (.cells #[.string ⟨#[]⟩,.int .i64 0,.int .i64 0] 60 (0,0)):=by rw[hwb];exact Ah wa _
 rw[sa]at hRb;have hwb0:Below w.heap.size w wb:=ha.trans (hb.mono ha.size);have HBS:=Aa (Jfk p n c l name wb (h.below Dg.keeps hwb0) hn hnb hs);have HFL:=Aa (Jco (name:=name) hs);have HH:=Aa h;have HN:=Aa hn;have hkn:cntLt l name≤n:=by rw[←hn];exact List.countP_le_length
 obtain⟨fs,hfs⟩:∃fs,fs=Hc l name:=⟨_,rfl⟩
 rw[←hfs]at HFL HBS⊢;generalize cntLt l name=k at*;have HWA:=Aa hwa;have HWB:=Aa hwb;have HAB:=Aa hAb;have HRB:=Aa hRb;have HWB0:=Aa hwb0;have HSB:=Aa sb;clear h hn hs hwa hwb ha hb sa sb hA0 hAb hRb hwb0 hfs;go_enter Tryz.func23,Tryz.ntmps23;go_upto_region 1 with fail
 rw[←HWA.out,←HWB.out];clear HWA HWB;generalize hgb:w.heap.size=gb at*;have HGB:=Aa hgb;clear hgb;obtain⟨⟨a0,a1⟩,_⟩:=Bz _ _ _ _ _ HAB.out;go_upto_region 2 with(first|(go_at_call 60;refine HBS.out.mono ?_;rintro e w2 ⟨rfl,hb2⟩)|fail)
 have hR2:=(hb2.block (gb+1) (by have:=HSB.out;omega)).trans HRB.out;have hA2:=(hb2.block gb (by have:=HSB.out;omega)).trans HAB.out;have hw2:=HWB0.out.trans (hb2.mono (by have:=HSB.out;omega));have hsz2:gb+2≤w2.heap.size:=by have:=hb2.size;have:=HSB.out;omega
 have HR2:=Aa hR2;have HW2:=Aa hw2;obtain⟨⟨r0,r1,r2⟩,r3,r4,r5⟩:=Bj _ _ _ _ _ _ hR2;clear a0 a1 hb2;obtain⟨⟨a0,a1⟩,_⟩:=Bz _ _ _ _ _ hA2;clear hR2 hA2 hw2 HBS;cases fs with
 |none=>
  have hst:=Cy (.string ⟨#[]⟩) (.int .i64 0) (.int .i64 0) (by omega:gb≤gb+1) HR2.out;have HST:=Aa hst;clear hst;go_wp2_with fail
  exact Jas (r:=none) (x:=noDef) (by rfl) (by rfl) HGB.out HST.out.1 (HW2.out.trans (HST.out.2.below (by omega))) ⟨rfl,rfl⟩
 |some d=>
  have hkd:l[k]?=some d:=by
   have h1:=HFL.out;cases hq:l[k]? with
   |none=>rw[hq]at h1;cases h1
   |some e=>
    rw[hq]at h1;simp only at h1;cases he:sEq e.name name with
    |false=>rw[he]at h1;cases h1
    |true=>rw[he]at h1;cases h1;rfl
  have hkl:k < n:=by rw[←HN.out];exact(Ab.1 hkd).1
  obtain⟨b,off,d',hpe,hd',f0,f1,f2⟩:=(HH.out.below Dg.keeps (show Below w.heap.size w w2 by rw[HGB.out];exact HW2.out)).at_ (i:=k) (by rw[HN.out];exact hkl);subst hpe;obtain rfl:d'=d:=by rw[hkd]at hd';cases hd';rfl
  have hK:(k:Int) < (n:Int):=by omega
  have hK0:(0:Int)≤(k:Int):=by omega
  have hst:=Cy (.string d'.name) (.int .i64 (d'.obj:Int)) (.int .i64 (d'.sym:Int)) (by omega:gb≤gb+1) HR2.out;have HST:=Aa hst;clear hst hkd hd';go_wp2_with fail
  exact Jas (r:=some d') (x:=d') (by rfl) (by rfl) HGB.out HST.out.1 (HW2.out.trans (HST.out.2.below (by omega))) ⟨rfl,rfl⟩
def Ju(l:List Az)(o s:Int):Bool:=if o < 0∨(l.length:Int)≤o∨s < 0 then false else(symAt2 l o.toNat s.toNat).isSome
theorem Jk7(p:Option Addr)(c:Nat)(o s:Int)(l:List Az)(w:World)(h:Bg 5 Cg w p l):
 Calls Tryz.prog 63 #[.slice p l.length c,.int .i64 o,.int .i64 s] w fun e w'=>e= .returned (.bool (Ju l o s))∧Below w.heap.size w w':=by
 obtain⟨r,hr⟩:∃r,r=Ju l o s:=⟨_,rfl⟩
 rw[←hr];by_cases ho0:o < 0
 ·have hE:Hid (r=false):=Aa (by rw[hr];unfold Ju;rw[if_pos (.inl ho0)]);have h1:decide (0≤o)=false:=Ai (by omega);have h2:¬0≤o:=by omega
  clear hr h;go_enter Tryz.func63,Tryz.ntmps63;go_wp2_with fail
  go_ret;rw[hE.out];exact⟨rfl,Ag _ _⟩
 by_cases ho1:(l.length:Int)≤o
 ·have hE:Hid (r=false):=Aa (by rw[hr];unfold Ju;rw[if_pos (.inr (.inl ho1))]);have h1:0≤o:=by omega
  have h2:¬o < (l.length:Int):=by omega
  generalize l.length=ln at*;clear hr h;go_enter Tryz.func63,Tryz.ntmps63;go_wp2_with fail
  go_ret;rw[hE.out];exact⟨rfl,Ag _ _⟩
 by_cases hs0:s < 0
 ·have hE:Hid (r=false):=Aa (by rw[hr];unfold Ju;rw[if_pos (.inr (.inr hs0))]);have h1:0≤o:=by omega
  have h2:o < (l.length:Int):=by omega
  have h3:¬0≤s:=by omega
  generalize l.length=ln at*;clear hr h;go_enter Tryz.func63,Tryz.ntmps63;go_wp2_with fail
  go_ret;rw[hE.out];exact⟨rfl,Ag _ _⟩
 obtain⟨on,hon⟩:=Au (show 0≤o by omega);obtain⟨sn,hsn⟩:=Au (show 0≤s by omega);subst hon hsn;have hol:on < l.length:=by omega
 obtain⟨ob,hoo⟩:∃ob,l[on]?=some ob:=⟨_,Ae hol⟩
 obtain⟨b,off,p0,p1,p2,p4,c0,c1,c2,c4,hpe,e0,e1,e2,_⟩:=Du h hoo;subst hpe;have hr2:r=(ob.syms[sn]?).isSome:=by
  rw[hr];unfold Ju symAt2;rw[if_neg (by omega),Int.toNat_natCast,Int.toNat_natCast,hoo]
 have hr3:r=decide (sn < ob.syms.length):=by
  rw[hr2];by_cases hl:sn < ob.syms.length
  ·rw[Ae hl,Aj hl];rfl
  ·rw[List.getElem?_eq_none (by omega),Ai hl];rfl
 generalize ob.syms.length=yn at*;generalize l.length=ln at*;have hJ:(on:Int) < (ln:Int):=by omega
 have hJ0:(0:Int)≤(on:Int):=by omega
 have hK0:(0:Int)≤(sn:Int):=by omega
 clear hr hr2 hoo h ho0 ho1 hs0 e0 e2;by_cases hl:sn < yn
 ·have hE:Hid (r=true):=Aa (by rw[hr3,Aj hl]);have hK:(sn:Int) < (yn:Int):=by omega
  clear hr3;go_enter Tryz.func63,Tryz.ntmps63;go_wp2_with fail
  go_ret;rw[hE.out];exact⟨rfl,Ag _ _⟩
 ·have hE:Hid (r=false):=Aa (by rw[hr3,Ai hl]);have hK:¬(sn:Int) < (yn:Int):=by omega
  clear hr3;go_enter Tryz.func63,Tryz.ntmps63;go_wp2_with fail
  go_ret;rw[hE.out];exact⟨rfl,Ag _ _⟩
def Nu(D:List (List Bool))(o:Nat)(sec:Int):Bool:=decide (0 < sec)&&(Cz D o)[(sec - 1).toNat]?.getD false
theorem Jb1(pd:Option Addr)(cd o:Nat)(sec:Int)(vf:Value)(D:List (List Bool))(w:World)(h:Bg 1 Fg w pd D)(hrb:(Cz D o).length≤1000)(ho:o < D.length)(hs: -1≤sec∧sec≤((Cz D o).length:Int)):
 Calls Tryz.prog 64 #[.agg #[.slice pd D.length cd,vf],.int .i64 (o:Int),.int .i64 sec] w fun e w'=>e= .returned (.bool (Nu D o sec))∧Below w.heap.size w w':=by
 have hb1:Below w.heap.size w (w.alloc (.cells #[.slice pd D.length cd,vf] 49)):=(Ag _ w).alloc (Af _) _;obtain⟨⟨a0,a1⟩,_⟩:=Bz _ _ _ _ _ (Ah w (.cells #[.slice pd D.length cd,vf] 49));obtain⟨bd,od,qd,cq,hpd,hdc,hdh⟩:=Oa (h.below Fg.keeps hb1) ho;subst hpd;obtain⟨r,hr⟩:∃r,r=Nu D o sec:=⟨_,rfl⟩
 rw[←hr];have hr2:r=(decide (0 < sec)&&(Cz D o)[(sec - 1).toNat]?.getD false):=hr;have HR:=Aa hr2;have HDH:=Aa hdh;have hJ:(o:Int) < (D.length:Int):=by omega
 clear hr hr2 hdh h;generalize hrn:(Cz D o).length=rn at*;have HRN:=Aa hrn;clear hrn;by_cases hs0:0 < sec
 ·obtain⟨m,hm⟩:∃m:Nat,sec=((m+1:Nat):Int):=⟨(sec - 1).toNat,by omega⟩
  have hmn:m < (Cz D o).length:=by rw[HRN.out];omega
  obtain⟨b5,off5,d,hpe5,hd,hc⟩:=HDH.out.at_ hmn;subst hpe5;have hc:(w.alloc (.cells #[.slice (some ⟨bd,od,none⟩) D.length cd,vf] 49)).cell? ⟨b5,off5+m*1,none⟩=some (.bool d):=hc;rw[Nat.mul_one]at hc;have hE:Hid (r=d):=Aa (by rw[HR.out,Aj hs0,hm,show(((m+1:Nat):Int) - 1).toNat=m by omega,hd];rfl);have hsr:sec≤(rn:Int):=hs.2;have k1:IntKind.i64.wrap (sec - 1)=(m:Int):=by rw[show sec - 1=(m:Int) by omega];exact Al _ (by omega)
  have hK:(m:Int) < (rn:Int):=by omega
  generalize D.length=dn at*;clear hm hd hmn hs;go_enter Tryz.func64,Tryz.ntmps64;go_upto_region 1 with fail
  generalize w.alloc (.cells #[.slice (some ⟨bd,od,none⟩) dn cd,vf] 49)=w1 at*;generalize hgb:w.heap.size=gb at*;have HGB:=Aa hgb;clear hgb;go_wp2_with fail
  go_ret;rw[hE.out];exact⟨rfl,by rw[HGB.out];exact hb1⟩
 ·have hE:Hid (r=false):=Aa (by rw[HR.out,Ai hs0];rfl);generalize D.length=dn at*;go_enter Tryz.func64,Tryz.ntmps64;go_upto_region 1 with fail
  generalize w.alloc (.cells #[.slice (some ⟨bd,od,none⟩) dn cd,vf] 49)=w1 at*;generalize hgb:w.heap.size=gb at*;have HGB:=Aa hgb;clear hgb;go_wp2_with fail
  go_ret;rw[hE.out];exact⟨rfl,by rw[HGB.out];exact hb1⟩
theorem Vy{fn:Func}{p:Tmp}(h:fn.results= #[.cell p 67])(tmps:Array Value)(w:World)(g:Nat)(v0 v1 v2:Value)(hp:tmps.getD p undef= .pointer (some ⟨g,0,none⟩))
 (hg:w.heap[g]?=some (.cells #[v0,v1,v2] 67 (0,0))):(results fn tmps).run Tryz.prog w= .ok (.agg #[v0,v1,v2]) w:=by
 obtain⟨⟨r0,r1,r2⟩,_⟩:=Bj _ _ _ _ _ _ hg;have e:(results fn tmps).run Tryz.prog w=((asAddr (tmps.getD p undef)).run Tryz.prog w).andThen fun a w₁=>(loadVar 67 a).run Tryz.prog w₁:=by
  simp only[results,h];simp[Sem.run_bind,Result.andThen]
 rw[e,hp];go_simp
def placeB(x:Ct)(o:Int):Cq:=if x.sec≤0 then⟨0,0,x.value⟩else⟨o,x.sec,x.value⟩
theorem Jid(x:Ct)(o:Int)(w:World):Calls Tryz.prog 65 #[Jhu x,.int .i64 o] w fun e w'=>e= .returned (.agg (Jy (placeB x o)))∧Below w.heap.size w w':=by
 obtain⟨wa,hwa⟩:∃wa,wa=w.alloc (.cells #[.string x.name,.int .i64 x.bind,.int .i64 x.type,.int .i64 x.sec,.int .i64 x.value,.int .i64 x.size] 98):=⟨_,rfl⟩
 obtain⟨wb,hwb⟩:∃wb,wb=wa.alloc (.cells #[.int .i64 0,.int .i64 0,.int .i64 0] 67):=⟨_,rfl⟩
 have ha:Below w.heap.size w wa:=by rw[hwa];exact(Ag _ w).alloc (Af _) _
 have hb:Below wa.heap.size wa wb:=by rw[hwb];exact(Ag _ wa).alloc (Af _) _
 have sa:wa.heap.size=w.heap.size+1:=by rw[hwa];simp
 have sb:wb.heap.size=w.heap.size+2:=by rw[hwb];simp[sa]
 have hA0:wa.heap[w.heap.size]?=some (.cells #[.string x.name,.int .i64 x.bind,.int .i64 x.type,.int .i64 x.sec,.int .i64 x.value,.int .i64 x.size] 98 (0,0)):=by rw[hwa];exact Ah w _
 have hAb:=(hb.block _ (by omega)).trans hA0;have hRb:wb.heap[wa.heap.size]?=some (.cells #[.int .i64 0,.int .i64 0,.int .i64 0] 67 (0,0)):=by rw[hwb];exact Ah wa _
 rw[sa]at hRb;have hwb0:Below w.heap.size w wb:=ha.trans (hb.mono ha.size);have HWA:=Aa hwa;have HWB:=Aa hwb;have HRB:=Aa hRb;have HWB0:=Aa hwb0;have HSB:=Aa sb;obtain⟨x0,x1,x2,x3,x4,x5⟩:=Ky _ _ _ _ _ _ _ _ _ hAb;obtain⟨r,hr⟩:∃r,r=placeB x o:=⟨_,rfl⟩
 rw[←hr];have hr2:r=if x.sec≤0 then⟨0,0,x.value⟩else⟨o,x.sec,x.value⟩:=hr
 have HR:=Aa hr2;clear hwa hwb ha hb sa sb hA0 hAb hRb hwb0 hr hr2;go_enter Tryz.func65,Tryz.ntmps65;go_upto_region 1 with fail
 rw[←HWA.out,←HWB.out];clear HWA HWB;generalize hgb:w.heap.size=gb at*;have HGB:=Aa hgb;clear hgb;obtain⟨⟨r0,r1,r2⟩,r3,r4,r5⟩:=Bj _ _ _ _ _ _ HRB.out;by_cases hs:x.sec≤0
 ·have hE:Hid (r=⟨0,0,x.value⟩):=Aa (by rw[HR.out,if_pos hs]);have hst:=Cy (.int .i64 0) (.int .i64 0) (.int .i64 x.value) (by omega:gb≤gb+1) HRB.out;have HST:=Aa hst;clear hst;go_wp2_with fail
  exact bodyPost_ret (Vy rfl _ _ _ _ _ _ (by rfl) HST.out.1) rfl ⟨by rw[hE.out],by rw[HGB.out];exact HWB0.out.trans (HST.out.2.below (by have:=HSB.out;omega))⟩
 ·have hE:Hid (r=⟨o,x.sec,x.value⟩):=Aa (by rw[HR.out,if_neg hs]);have hst:=Cy (.int .i64 o) (.int .i64 x.sec) (.int .i64 x.value) (by omega:gb≤gb+1) HRB.out;have HST:=Aa hst;clear hst;go_wp2_with fail
  exact bodyPost_ret (Vy rfl _ _ _ _ _ _ (by rfl) HST.out.1) rfl ⟨by rw[hE.out],by rw[HGB.out];exact HWB0.out.trans (HST.out.2.below (by have:=HSB.out;omega))⟩
theorem Jeh(s:Ct)(q:Option Addr)(n c:Nat)(dr:List Bool)(w:World)(h:Bg 1 Ij w q dr)(hn:dr.length=n)(hs: -1≤s.sec∧s.sec≤(n:Int))(hnb:n≤100000):
 Calls Tryz.prog 105 #[Jhu s,.slice q n c] w fun e w'=>e= .returned (.bool (Cw s dr))∧Below w.heap.size w w':=by
 have hb1:Below w.heap.size w (w.alloc (.cells #[.string s.name,.int .i64 s.bind,.int .i64 s.type,.int .i64 s.sec,.int .i64 s.value,.int .i64 s.size] 98)):=(Ag _ w).alloc (Af _) _;obtain⟨x0,x1,x2,x3,x4,x5⟩:=Ky _ _ _ _ _ _ _ _ _ (Ah w (.cells #[.string s.name,.int .i64 s.bind,.int .i64 s.type,.int .i64 s.sec,.int .i64 s.value,.int .i64 s.size] 98));have hh:=h.below Ij.keeps hb1;obtain⟨res,hres⟩:∃res,res=Cw s dr:=⟨_,rfl⟩
 rw[←hres];have HRES:=Aa hres;have HH:=Aa hh;have HN:=Aa hn;clear h hres hh hn;go_enter Tryz.func105,Tryz.ntmps105;go_upto_region 1 with fail
 generalize w.alloc (.cells #[.string s.name,.int .i64 s.bind,.int .i64 s.type,.int .i64 s.sec,.int .i64 s.value,.int .i64 s.size] 98)=w1 at*;generalize hgb:w.heap.size=gb at*;have HGB:=Aa hgb;clear hgb;have hr:res=bif s.bind==0 || s.sec==0 then false else s.sec== -1 || !(dr[(s.sec - 1).toNat]?.getD false):=HRES.out
 have HR:=Aa hr;clear hr HRES;cases h0:(s.bind==0)with
 |true=>
  have hE:Hid (res=false):=Aa (by rw[HR.out,h0];rfl);go_wp2_with fail
  go_ret;rw[hE.out];exact⟨rfl,by rw[HGB.out];exact hb1⟩
 |false=>
  by_cases h1:s.sec=0
  ·have hE:Hid (res=false):=Aa (by rw[HR.out,h0,h1];rfl);have h2:(s.sec== -1)=false:=by rw[h1];rfl
   have h3:¬0 < s.sec:=by omega
   have HS:=Aa h1;clear h1;go_wp2_with fail
   go_ret;rw[hE.out];exact⟨rfl,by rw[HGB.out];exact hb1⟩
  ·cases h2:(s.sec== -1)with
   |true=>
    have hE:Hid (res=true):=Aa (by rw[HR.out,h0,show(s.sec==0)=false by simpa using h1,h2];rfl);go_wp2_with fail
    go_ret;rw[hE.out];exact⟨rfl,by rw[HGB.out];exact hb1⟩
   |false=>
    have h2':¬s.sec= -1:=by simpa using h2
    obtain⟨m,hm⟩:∃m:Nat,s.sec=((m+1:Nat):Int):=⟨(s.sec - 1).toNat,by omega⟩
    have hmn:m < dr.length:=by rw[HN.out];omega
    obtain⟨b,off,d,rfl,hd,hc⟩:=HH.out.at_ hmn;have hc:w1.cell? ⟨b,off+m*1,none⟩=some (.bool d):=hc;rw[Nat.mul_one]at hc;have hE:Hid (res= !d):=Aa (by rw[HR.out,h0,show(s.sec==0)=false by simpa using h1,h2,hm,show(((m+1:Nat):Int) - 1).toNat=m by omega,hd];rfl);have k1:IntKind.i64.wrap (s.sec - 1)=(m:Int):=by rw[show s.sec - 1=(m:Int) by omega];exact Al _ (by omega)
    have h3:0 < s.sec:=by omega
    have hJ:(m:Int) < (n:Int):=by omega
    have hJ0:(0:Int)≤(m:Int):=by omega
    clear hm hd h1 h2' hmn;go_wp2_with fail
    go_ret;rw[hE.out];exact⟨rfl,by rw[HGB.out];exact hb1⟩
end Go.Proofs.YteopgmieindojaaGreat
