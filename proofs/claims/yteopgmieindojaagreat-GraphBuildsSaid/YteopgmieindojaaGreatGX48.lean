/- Parts of a proof. -/
import Derived.Test.YteopgmieindojaaGreatGX42
import Derived.Test.YteopgmieindojaaGreatGX46
import Derived.Test.YteopgmieindojaaGreatGX32
import Derived.Test.YteopgmieindojaaGreatGX47
import Derived.Test.YteopgmieindojaaGreatGX22
import Derived.Test.YteopgmieindojaaGreatGX35
import Derived.Test.YteopgmieindojaaGreatGX13
import Derived.Test.YteopgmieindojaaGreatGX17
import Derived.Test.YteopgmieindojaaGreatGX43
import Derived.OwnWalk
import Derived.Laws.StructEq
import Derived.Test.YteopgmieindojaaGreatGX18
import Derived.StillTailTactics
set_option maxRecDepth 1000000
set_option maxHeartbeats 8000000
namespace Go.Proofs.YteopgmieindojaaGreat
open Go.RowKit
theorem Xb{α:Type}{k:Nat}{E:World→Nat→Nat→α→Prop}{w:World}{b:Nat}{x:α}(h0:E w b 0 x):Bg k E w (some ⟨b,0,none⟩) [x]:=fun i z hz=>by
 match i,hz with
 |0,hz=>
  simp at hz;subst hz;exact⟨b,0,rfl,by rw[Nat.zero_mul];exact h0⟩
 |i+1,hz=>simp at hz
theorem Jof{α:Type}{k:Nat}{E:World→Nat→Nat→α→Prop}{w:World}{b:Nat}{x y:α}(h0:E w b 0 x)(h1:E w b k y):Bg k E w (some ⟨b,0,none⟩) [x,y]:=fun i z hz=>by
 match i,hz with
 |0,hz=>
  simp at hz;subst hz;exact⟨b,0,rfl,by rw[Nat.zero_mul];exact h0⟩
 |1,hz=>
  simp at hz;subst hz;exact⟨b,0,rfl,by rw[Nat.one_mul,Nat.zero_add];exact h1⟩
 |i+2,hz=>simp at hz
theorem Je1{α:Type}{k:Nat}{E:World→Nat→Nat→α→Prop}{w:World}:IsL k E w (.slice none 0 0) ([]:List α):=⟨none,0,rfl,Af _,Ak _,fun _=>rfl,fun i x hx=>by simp at hx⟩
def Nn(l:List Az):Bool:=decide (l.length≤8)&&l.all mayO
theorem Ww{l:List Az}(h:Nn l=true):∀o∈l,mayO o=true:=by
 unfold Nn at h;simp only[Bool.and_eq_true,List.all_eq_true]at h;exact h.2
theorem Rx{l:List Az}(hs:∀o∈l,Gn o)(h:Nn l=true):∀o∈l,OkD o:=fun o ho=>by
 have:=Ww h o ho;unfold mayO at this;simp only[Bool.and_eq_true]at this;exact Jrj this.1 (hs o ho)
theorem Sn(p:Option Addr)(c:Nat)(l:List Az)(entry:ByteArray)(w:World)(h:Bg 5 Cg w p l)(hl:l.length≤10)(hs:∀o∈l,Gn o):
 Calls Tryz.prog 28 #[.slice p l.length c,.string entry] w (Jdz (Ir l (Nn l) entry) w):=by
 refine Jif Jmf p c l (Nn l) entry w h hl (Rx hs) (fun hm=>Jcv h (Ww hm)) fun W hW=>?_;exact Jdt Jfi p c l W (h.below Cg.keeps hW) _ (fun hm=>⟨Rx hs hm,by unfold Nn at hm;simp only[Bool.and_eq_true,decide_eq_true_eq]at hm;exact hm.1⟩)
  fun W2 hW2=>Jnj p c l W2 ((h.below Cg.keeps hW).below Cg.keeps hW2) mayO fun o ho W3 v0 v1 v2 v4 hp=>Ji5 o v0 v1 v2 v4 W3 hp (hs o ho)
def Qe:ByteArray:=⟨#[46,116,101,120,116]⟩
def nmF:ByteArray:=⟨#[102]⟩
def nmG:ByteArray:=⟨#[103]⟩
def gR:Ea:=⟨0,1,1,3⟩
def gS:Ca:=⟨Qe,1,6,1,0,0,8, [195,0,0,0,0,0,0,0], [gR]⟩
def gO:Az:=⟨[gS], [⟨⟨#[]⟩,0,0,0,0,0⟩,⟨nmF,1,0,1,0,0⟩], [],false, []⟩
def gN:Ce:=⟨0,1,0,Qe,1,6,1,0,8, [195,0,0,0,0,0,0,0], [⟨0,1,3,0,0⟩],true,0,0⟩
def gG:Iq:=⟨[gN],0,0, [⟨nmF,0,0⟩]⟩
theorem Jdg:∀o∈ [gO],Gn o:=fun o ho=>by
 rcases List.mem_cons.1 ho with rfl|ho
 ·exact⟨by decide,by decide,by decide,by decide,(fun s hs=>by cases hs with|head=>decide|tail _ h=>cases h),(fun _ h=>by cases h)⟩
 ·cases ho
theorem gO_f:Ir [gO] (Nn [gO]) nmF=(some gG,0):=by kernel_rfl
theorem gO_g:Ir [gO] (Nn [gO]) nmG=(none,5):=by kernel_rfl
def Jk0(r:Option Iq × Int)(w:World)(e:Ending)(w':World):Prop:=∃cs,e= .returned (.tuple #[.agg cs,.int .i64 r.2])∧Gr w' cs r.1∧Below w.heap.size w w'
theorem Jjo{a:Act}{w:World}{R:Ending→World→Prop}{g:Nat}{v0 v1 v2 v3:Value}{n:Int}(h:a.defers= [])(h4:a.tmps.getD 4 undef= .pointer (some ⟨g,0,none⟩))(h5:a.tmps.getD 5 undef= .int .i64 n)(hg:w.heap[g]?=some (.cells #[v0,v1,v2,v3] 77 (0,0)))(hR:R (.returned (.tuple #[.agg #[v0,v1,v2,v3],.int .i64 n])) w):bodyPost Tryz.prog Tryz.f29 R .ret a w:=
 bodyPost_ret (Na rfl _ _ _ _ _ _ _ _ h4 h5 hg) h hR
theorem Jbw{w:World}{cs:Array Value}{g:Option Iq}(h:Gr w cs g):∃v0 v1 v2 v3,cs= #[v0,v1,v2,v3]:=by
 cases g with
 |none=>exact⟨_,_,_,_,h⟩
 |some g=>
  obtain⟨v0,v3,e,_⟩:=h;exact⟨_,_,_,_,e⟩
theorem Ji4(p:Option Addr)(c:Nat)(l:List Az)(en:ByteArray)(w:World)(h:Bg 5 Cg w p l)(hl:l.length≤10)(hs:∀o∈l,Gn o):
 Calls Tryz.prog 29 #[.slice p l.length c,.string en] w (Jk0 (Ir l (Nn l) en) w):=by
 have HRES:∀W,Below w.heap.size w W→Calls Tryz.prog 20 #[.slice p l.length c] W (Jcf l (Nn l) W):=fun W hW=>Jez p c l W (h.below Cg.keeps hW) (by omega) mayO _ rfl (Rx hs) fun o ho W3 v0 v1 v2 v4 hp=>Jhb o v0 v1 v2 v4 W3 hp (hs o ho);go_enter Tryz.func29,Tryz.ntmps29;show Code.wp _ (Bt 0) _ _ _;refine Jo2 (by kernel_rfl) ?_;intro R0 h0;rw[Jpt];refine wp_seq (bdrg0 (h0) ?_);intro R1 h1;refine Ba ?_;have hZ:=Ah w (.cells zG 77);have hb1:Below w.heap.size w (w.alloc (.cells zG 77)):=(Ag _ w).alloc (Af _) _;generalize w.alloc (.cells zG 77)=w1 at*;generalize hg4:w.heap.size=g4 at*;rw[Jq1];refine wp_seq (bdrg1 (l:=l) (mb:=Nn l) (h1) (HRES w1 hb1) ?_);intro R2 n u0 u1 w2 h2 hT hb2;refine Ba ?_;obtain⟨hn,hor⟩:=Jq5 hl (Rx hs) hT;have hb3:Below w2.heap.size w2 (w2.alloc (.cells #[u0,u1] 54)):=(Ag _ w2).alloc (Af _) _;have hTB:=Ah w2 (.cells #[u0,u1] 54);generalize w2.alloc (.cells #[u0,u1] 54)=w3 at*;generalize hg6:w2.heap.size=g6 at hTB⊢;have hb13:Below w1.heap.size w1 w3:=hb2.trans (hb3.mono hb2.size);have hg4l:g4 < w1.heap.size:=(Ac.1 hZ).1;have hb03:Below g4 w w3:=hb1.trans (hb13.mono (Ar hg4l));have hZ3:=Cr hb13 hZ;have hg43:g4 < w3.heap.size:=(Ac.1 hZ3).1;rw[Jqq];refine wp_seq (wp_seq (bdrg2 (h2) ?_));intro R3 h3 h31;refine Ba ?_;rcases hor with⟨hne,_⟩|⟨h0n,hmb,hto,hit⟩
 ·refine wp_cond_true ((Ex R3 _ _ _ _ _ _ _ _ _ _ _ _ _ _ _ _ _ _ _ _ _ _ _ _ _ 6).trans (h31.trans (by simp[hne]))) ?_;refine wp_seq (bdrg3 (n:=n) (h3) (hZ3) ?_);intro R4 w4 h4 hz hf;have hbb:Ir l (Nn l) en=(none,n):=by rw[Tf (by rw[←hn];exact hne),hn]
  rw[hbb];exact Ba (wp_ret (Jjo rfl rfl rfl hz ⟨_,rfl,rfl,by rw[hg4];exact hb03.trans (hf.below (Ar hg43))⟩))
 ·subst h0n;refine wp_cond_false ((Ex R3 _ _ _ _ _ _ _ _ _ _ _ _ _ _ _ _ _ _ _ _ _ _ _ _ _ 6).trans h31) (wp_skip (Ba ?_));obtain⟨⟨q0,c0,rfl,_,_,_,hh0⟩,⟨q1,c1,rfl,_,_,_,hh1⟩⟩:=hit;have hok:=Rx hs hmb;have hsg:=Jcv h (Ww hmb);generalize hdefs:(Hi l (Nn l)).2=defs at*;have hbb:Ir l (Nn l) en=Ha l (dropsOf l) defs en:=by rw[Rq hn.symm,hdefs]
  have C:BdC w3 l defs p q0 q1 g4 g6 c0 c1:=⟨h.below Cg.keeps (by rw[hg4];exact hb03),hTB,hZ3,Vi (hh0.below Fg.keeps hb3),hh1.below Dg.keeps hb3,hok,hsg,hl,hto⟩
  rw[Jqu];refine wp_seq (bdrg4 (ys:=Ep l (dropsOf l) (Cl l)) (h3) (hTB) (Jhr p q0 q1 c c0 defs.length c1 l (dropsOf l) w3 C.objs hok hsg (by omega) C.drop) ?_);intro R4 pn cn w4 h4 hN hb4;refine Ba ?_;rw[Jpp];refine wp_seq (bdrg5 (h4) ?_);intro R5 h5;refine Ba ?_;have hlen:(Ep l (dropsOf l) (Cl l)).length=(Bs l (dropsOf l)).length:=by rw[Jgo,Jdl]
  rw[hlen]at hN⊢;obtain⟨ns,hrow,hns,hmap⟩:=hN;rw[hlen]at hrow;have hb5:Below w4.heap.size w4 (w4.alloc (.cells #[.slice pn (Bs l (dropsOf l)).length cn,.int .i64 0,.int .i64 0,.slice none 0 0] 77)):=(Ag _ w4).alloc (Af _) _;have hG9:=Ah w4 (.cells #[.slice pn (Bs l (dropsOf l)).length cn,.int .i64 0,.int .i64 0,.slice none 0 0] 77);generalize w4.alloc (.cells #[.slice pn (Bs l (dropsOf l)).length cn,.int .i64 0,.int .i64 0,.slice none 0 0] 77)=w5 at*;have hg9:w3.heap.size≤w4.heap.size:=hb4.size;have hf45:FrT w3.heap.size [] w4 w5:=FrT.of_below hb5;have S:BdS w3 l w4.heap.size pn cn 0 w5 ns:=⟨hb4.trans (hb5.mono hb4.size),hG9,hg9,hf45.owns hrow (by simp),fun y hy=>(hns y hy).1.below hb5,by rw[hmap,Jgo],fun j y _ hy=>(hns y (Ad hy)).2.1,rfl⟩
  refine bt6 C S (h5) ?_;intro a w' cs e1 e2 e3 e4 e5 e6;rw[hbb];obtain⟨v0,v1,v2,v3,rfl⟩:=Jbw e5;exact Jjo e1 e2 e3 e4 ⟨_,rfl,e5,by rw[hg4];exact hb03.trans e6⟩
def Eo(y:Ce)(pd:Option Addr)(cd:Nat)(pe:Option Addr)(ce:Nat):Array Value:=#[.int .i64 y.obj,.int .i64 y.sec,.int .i64 y.pos,.string y.name,.int .i64 y.type,.int .i64 y.flags,.int .i64 y.align,.int .i64 y.ent,.int .i64 y.size,.slice pd y.data.length cd,.slice pe y.edges.length ce,.bool y.unique,.int .i64 y.group,.int .i64 y.link]
noncomputable def Hl(n:Nat):Code:=((Tryz.f75.body.bind (Hz n)).getD .skip)
noncomputable def Ib(n:Nat):Code:=((Tryz.f75.body.bind (Lo n)).getD .skip)
theorem Jpr:Ib 0= .seq (Hl 0) (Ib 1):=by kernel_rfl
theorem Jpg:Ib 1= .seq (.seq (Hl 1) (.cond (.tmp 66) (.seq (Hl 2) .ret) .skip)) (Ib 3):=by kernel_rfl
theorem Jqy:Ib 3= .seq (.seq (Hl 3) (.cond (.tmp 103) (.seq (Hl 4) .ret) .skip)) (Ib 5):=by kernel_rfl
theorem Jqf:Ib 5= .seq (.seq (Hl 5) (.block 0 (.loop (Ib 6)))) (Ib 10):=by kernel_rfl
theorem Jqo:Ib 6= .seq (.seq (Hl 6) (.cond (.tmp 108) .skip (.exit 0))) (.seq (.block 1 (Ib 8)) (Hl 7)):=by kernel_rfl
theorem Jqv:Ib 8= .seq (Hl 8) (.cond (.tmp 121) (.seq (Hl 9) .ret) .skip):=by kernel_rfl
theorem Jmy:Ib 10= .seq (Hl 10) .ret:=by kernel_rfl
theorem Uq(R:List Value)(v0 v1 v2 v3 v4 v5:Value)(k:Nat):(⟨(List.toArray (v0::v1::v2::v3::v4::v5::R)), []⟩:Act).eval (.tmp (6+k))=Ay R k:=by
 show Array.getD _ _ _=R.getD k undef;rw[Array.getD_eq_getD_getElem?,List.getElem?_toArray,List.getD_eq_getElem?_getD,show 6+k=k+6 by omega];rfl
theorem Oi(R:List Value)(h:R.length=116):R= [Ay R 0,Ay R 1,Ay R 2,Ay R 3,Ay R 4,Ay R 5,Ay R 6,Ay R 7,Ay R 8,Ay R 9,Ay R 10,Ay R 11,Ay R 12,Ay R 13,Ay R 14,Ay R 15,Ay R 16,Ay R 17,Ay R 18,Ay R 19,Ay R 20,Ay R 21,Ay R 22,Ay R 23,Ay R 24,Ay R 25,Ay R 26,Ay R 27,Ay R 28,Ay R 29,Ay R 30,Ay R 31,Ay R 32,Ay R 33,Ay R 34,Ay R 35,Ay R 36,Ay R 37,Ay R 38,Ay R 39,Ay R 40,Ay R 41,Ay R 42,Ay R 43,Ay R 44,Ay R 45,Ay R 46,Ay R 47,Ay R 48,Ay R 49,Ay R 50,Ay R 51,Ay R 52,Ay R 53,Ay R 54,Ay R 55,Ay R 56,Ay R 57,Ay R 58,Ay R 59,Ay R 60,Ay R 61,Ay R 62,Ay R 63,Ay R 64,Ay R 65,Ay R 66,Ay R 67,Ay R 68,Ay R 69,Ay R 70,Ay R 71,Ay R 72,Ay R 73,Ay R 74,Ay R 75,Ay R 76,Ay R 77,Ay R 78,Ay R 79,Ay R 80,Ay R 81,Ay R 82,Ay R 83,Ay R 84,Ay R 85,Ay R 86,Ay R 87,Ay R 88,Ay R 89,Ay R 90,Ay R 91,Ay R 92,Ay R 93,Ay R 94,Ay R 95,Ay R 96,Ay R 97,Ay R 98,Ay R 99,Ay R 100,Ay R 101,Ay R 102,Ay R 103,Ay R 104,Ay R 105,Ay R 106,Ay R 107,Ay R 108,Ay R 109,Ay R 110,Ay R 111,Ay R 112,Ay R 113,Ay R 114,Ay R 115]:=by
 have e:=Ra R;rw[h]at e;exact e.trans (by kernel_rfl)
theorem Jqr{P:Program}{Q:Exit→Act→World→Prop}{w:World}{c:Code}{v0 v1 v2 v3 v4 v5:Value}{R:List Value}(h:R.length=116)(k:∀R:List Value,R.length=116→c.wp P Q ⟨(List.toArray (v0::v1::v2::v3::v4::v5::R)), []⟩ w):c.wp P Q ⟨(List.toArray (v0::v1::v2::v3::v4::v5::R)), []⟩ w:=k R h
theorem Jpi(e:Et)(W:World):(binOp .neq 92 (.agg #[.int .i64 e.off,.int .i64 e.type,.int .i64 e.add,.int .i64 e.to_,.int .i64 e.at_]) (.agg #[.int .i64 e.off,.int .i64 e.type,.int .i64 e.add,.int .i64 e.to_,.int .i64 e.at_])).run Tryz.prog W= .ok (.bool false) W:=by
 have u3:=Tryz.underlying3;have a3:=Tryz.isAgg3;have z3:=Tryz.sizeOf3;have hS:Tryz.prog.underlying 92=some (.struct (Tryz.prog.fieldsOf 92)):=by kernel_rfl
 have hp:Tryz.prog.stoodInHeld 92=false:=by kernel_rfl
 rw[run_neq_struct,show(10000:Nat)=9999+1 from rfl,run_equalIn_agg W 9999 92 _ _ hS hp];simp only[Program.fieldsOf,Tryz.underlying92];go_simp
theorem Jp6(e:NmD)(W:World):(binOp .neq 96 (.agg #[.string e.name,.int .i64 e.to_,.int .i64 e.at_]) (.agg #[.string e.name,.int .i64 e.to_,.int .i64 e.at_])).run Tryz.prog W= .ok (.bool false) W:=by
 have u3:=Tryz.underlying3;have a3:=Tryz.isAgg3;have z3:=Tryz.sizeOf3;have u4:=Tryz.underlying9;have a4:=Tryz.isAgg9;have z4:=Tryz.sizeOf9;have hS:Tryz.prog.underlying 96=some (.struct (Tryz.prog.fieldsOf 96)):=by kernel_rfl
 have hp:Tryz.prog.stoodInHeld 96=false:=by kernel_rfl
 rw[run_neq_struct,show(10000:Nat)=9999+1 from rfl,run_equalIn_agg W 9999 96 _ _ hS hp];simp only[Program.fieldsOf,Tryz.underlying96];go_simp
theorem snrg0{y:Ce}{pd pe pd2 pe2:Option Addr}{cd ce cd2 ce2:Nat}{w:World}{Q:Exit→Act→World→Prop}{v2 v3 v4 v5:Value}{R:List Value}(hR:R.length=116)
 (hQ:∀(R':List Value),R'.length=116→Q .normal ⟨(List.toArray ((.agg (Eo y pd cd pe ce))::(.agg (Eo y pd2 cd2 pe2 ce2)):: .pointer (some ⟨w.heap.size,0,none⟩):: .pointer (some ⟨w.heap.size+1,0,none⟩):: .bool false::v5::R')), []⟩ ((w.alloc (.cells (Eo y pd cd pe ce) 86)).alloc (.cells (Eo y pd2 cd2 pe2 ce2) 86))):
 Code.wp Tryz.prog (Hl 0) Q ⟨(List.toArray ((.agg (Eo y pd cd pe ce))::(.agg (Eo y pd2 cd2 pe2 ce2))::v2::v3::v4::v5::R)), []⟩ w:=by
 have HQ:=Aa hQ;clear hQ;rw[Oi R hR]
 conv=>arg 2;whnf
 go_wp2_with fail
 exact HQ.out _ rfl
theorem snrg1{ga gb:Nat}{y:Ce}{pd pe pd2 pe2:Option Addr}{cd ce cd2 ce2:Nat}{w:World}{Q:Exit→Act→World→Prop}{v0 v1 v4 v5:Value}{R:List Value}(hR:R.length=116)
 (hA:w.heap[ga]?=some (.cells (Eo y pd cd pe ce) 86 (0,0)))(hB:w.heap[gb]?=some (.cells (Eo y pd2 cd2 pe2 ce2) 86 (0,0)))
 (hQ:∀(R':List Value),R'.length=116→Ay R' 60= .bool false→Q .normal ⟨(List.toArray (v0::v1:: .pointer (some ⟨ga,0,none⟩):: .pointer (some ⟨gb,0,none⟩)::v4::v5::R')), []⟩ w):
 Code.wp Tryz.prog (Hl 1) Q ⟨(List.toArray (v0::v1:: .pointer (some ⟨ga,0,none⟩):: .pointer (some ⟨gb,0,none⟩)::v4::v5::R)), []⟩ w:=by
 have HQ:=Aa hQ;clear hQ;rw[Oi R hR]
 conv=>arg 2;whnf
 have a0:w.cell? ⟨ga,0,none⟩=some (.int .i64 y.obj):=Bi hA 0 _ rfl;have a1:w.cell? ⟨ga,1,none⟩=some (.int .i64 y.sec):=Bi hA 1 _ rfl;have a2:w.cell? ⟨ga,2,none⟩=some (.int .i64 y.pos):=Bi hA 2 _ rfl;have a3:w.cell? ⟨ga,3,none⟩=some (.string y.name):=Bi hA 3 _ rfl;have a4:w.cell? ⟨ga,4,none⟩=some (.int .i64 y.type):=Bi hA 4 _ rfl;have a5:w.cell? ⟨ga,5,none⟩=some (.int .i64 y.flags):=Bi hA 5 _ rfl;have a6:w.cell? ⟨ga,6,none⟩=some (.int .i64 y.align):=Bi hA 6 _ rfl;have a7:w.cell? ⟨ga,7,none⟩=some (.int .i64 y.ent):=Bi hA 7 _ rfl;have a8:w.cell? ⟨ga,8,none⟩=some (.int .i64 y.size):=Bi hA 8 _ rfl;have b0:w.cell? ⟨gb,0,none⟩=some (.int .i64 y.obj):=Bi hB 0 _ rfl;have b1:w.cell? ⟨gb,1,none⟩=some (.int .i64 y.sec):=Bi hB 1 _ rfl;have b2:w.cell? ⟨gb,2,none⟩=some (.int .i64 y.pos):=Bi hB 2 _ rfl;have b3:w.cell? ⟨gb,3,none⟩=some (.string y.name):=Bi hB 3 _ rfl;have b4:w.cell? ⟨gb,4,none⟩=some (.int .i64 y.type):=Bi hB 4 _ rfl;have b5:w.cell? ⟨gb,5,none⟩=some (.int .i64 y.flags):=Bi hB 5 _ rfl;have b6:w.cell? ⟨gb,6,none⟩=some (.int .i64 y.align):=Bi hB 6 _ rfl;have b7:w.cell? ⟨gb,7,none⟩=some (.int .i64 y.ent):=Bi hB 7 _ rfl;have b8:w.cell? ⟨gb,8,none⟩=some (.int .i64 y.size):=Bi hB 8 _ rfl;clear hA hB;go_wp2_with fail
 exact HQ.out _ rfl rfl
theorem snrg3{ga gb:Nat}{y:Ce}{pd pe pd2 pe2:Option Addr}{cd ce cd2 ce2:Nat}{w:World}{Q:Exit→Act→World→Prop}{v0 v1 v4 v5:Value}{R:List Value}(hR:R.length=116)
 (hA:w.heap[ga]?=some (.cells (Eo y pd cd pe ce) 86 (0,0)))(hB:w.heap[gb]?=some (.cells (Eo y pd2 cd2 pe2 ce2) 86 (0,0)))(hd:Has w pd y.data)(hd2:Has w pd2 y.data)
 (hQ:∀(R':List Value),R'.length=116→Ay R' 97= .bool false→Q .normal ⟨(List.toArray (v0::v1:: .pointer (some ⟨ga,0,none⟩):: .pointer (some ⟨gb,0,none⟩)::v4::v5::R')), []⟩ w):
 Code.wp Tryz.prog (Hl 3) Q ⟨(List.toArray (v0::v1:: .pointer (some ⟨ga,0,none⟩):: .pointer (some ⟨gb,0,none⟩)::v4::v5::R)), []⟩ w:=by
 have HQ:=Aa hQ;clear hQ;rw[Oi R hR]
 conv=>arg 2;whnf
 have a9:w.cell? ⟨ga,9,none⟩=some (.slice pd y.data.length cd):=Bi hA 9 _ rfl;have a10:w.cell? ⟨ga,10,none⟩=some (.slice pe y.edges.length ce):=Bi hA 10 _ rfl;have a11:w.cell? ⟨ga,11,none⟩=some (.bool y.unique):=Bi hA 11 _ rfl;have a12:w.cell? ⟨ga,12,none⟩=some (.int .i64 y.group):=Bi hA 12 _ rfl;have a13:w.cell? ⟨ga,13,none⟩=some (.int .i64 y.link):=Bi hA 13 _ rfl;have b9:w.cell? ⟨gb,9,none⟩=some (.slice pd2 y.data.length cd2):=Bi hB 9 _ rfl;have b10:w.cell? ⟨gb,10,none⟩=some (.slice pe2 y.edges.length ce2):=Bi hB 10 _ rfl;have b11:w.cell? ⟨gb,11,none⟩=some (.bool y.unique):=Bi hB 11 _ rfl;have b12:w.cell? ⟨gb,12,none⟩=some (.int .i64 y.group):=Bi hB 12 _ rfl;have b13:w.cell? ⟨gb,13,none⟩=some (.int .i64 y.link):=Bi hB 13 _ rfl;have q1:=Jc4 hd rfl (cap:=cd);have q2:=Jc4 hd2 rfl (cap:=cd2);clear hA hB hd hd2;go_wp2_with fail
 exact HQ.out _ rfl rfl
theorem snrg5{w:World}{Q:Exit→Act→World→Prop}{v0 v1 v2 v3 v4 v5:Value}{R:List Value}(hR:R.length=116)
 (hQ:∀(R':List Value),R'.length=116→Q .normal ⟨(List.toArray (v0::v1::v2::v3::v4:: .int .i64 0::R')), []⟩ w):
 Code.wp Tryz.prog (Hl 5) Q ⟨(List.toArray (v0::v1::v2::v3::v4::v5::R)), []⟩ w:=by
 have HQ:=Aa hQ;clear hQ;rw[Oi R hR]
 conv=>arg 2;whnf
 go_wp2_with fail
 exact HQ.out _ rfl
theorem snrg6{ga i:Nat}{y:Ce}{pd pe:Option Addr}{cd ce:Nat}{w:World}{Q:Exit→Act→World→Prop}{v0 v1 v3 v4:Value}{R:List Value}(hR:R.length=116)
 (hA:w.heap[ga]?=some (.cells (Eo y pd cd pe ce) 86 (0,0)))
 (hQ:∀(R':List Value),R'.length=116→Ay R' 102= .bool (decide (i < y.edges.length))→Q .normal ⟨(List.toArray (v0::v1:: .pointer (some ⟨ga,0,none⟩)::v3::v4:: .int .i64 (i:Int)::R')), []⟩ w):
 Code.wp Tryz.prog (Hl 6) Q ⟨(List.toArray (v0::v1:: .pointer (some ⟨ga,0,none⟩)::v3::v4:: .int .i64 (i:Int)::R)), []⟩ w:=by
 have HQ:=Aa hQ;clear hQ;rw[Oi R hR]
 conv=>arg 2;whnf
 have a10:w.cell? ⟨ga,10,none⟩=some (.slice pe y.edges.length ce):=Bi hA 10 _ rfl;clear hA;go_wp2_with fail
 exact HQ.out _ rfl rfl
theorem snrg7{i:Nat}{w:World}{Q:Exit→Act→World→Prop}{v0 v1 v2 v3 v4:Value}{R:List Value}(hR:R.length=116)
 (kw:IntKind.i64.wrap ((i:Int)+1)=(i:Int)+1)
 (hQ:∀(R':List Value),R'.length=116→Q .normal ⟨(List.toArray (v0::v1::v2::v3::v4:: .int .i64 ((i:Int)+1)::R')), []⟩ w):
 Code.wp Tryz.prog (Hl 7) Q ⟨(List.toArray (v0::v1::v2::v3::v4:: .int .i64 (i:Int)::R)), []⟩ w:=by
 have HQ:=Aa hQ;clear hQ;rw[Oi R hR]
 conv=>arg 2;whnf
 go_wp2_with fail
 exact HQ.out _ rfl
theorem snrg8{ga gb i b1 o1 b2 o2:Nat}{y:Ce}{pd pd2:Option Addr}{cd ce cd2 ce2:Nat}{e:Et}{w:World}{Q:Exit→Act→World→Prop}{v0 v1 v4:Value}{R:List Value}(hR:R.length=116)
 (hA:w.heap[ga]?=some (.cells (Eo y pd cd (some ⟨b1,o1,none⟩) ce) 86 (0,0)))(hB:w.heap[gb]?=some (.cells (Eo y pd2 cd2 (some ⟨b2,o2,none⟩) ce2) 86 (0,0)))(hi:(i:Int) < (y.edges.length:Int))(e0:w.cell? ⟨b1,o1+i*5,none⟩=some (.int .i64 e.off))(e1:w.cell? ⟨b1,o1+i*5+1,none⟩=some (.int .i64 e.type))(e2:w.cell? ⟨b1,o1+i*5+2,none⟩=some (.int .i64 e.add))(e3:w.cell? ⟨b1,o1+i*5+3,none⟩=some (.int .i64 e.to_))(e4:w.cell? ⟨b1,o1+i*5+4,none⟩=some (.int .i64 e.at_))(f0:w.cell? ⟨b2,o2+i*5,none⟩=some (.int .i64 e.off))(f1:w.cell? ⟨b2,o2+i*5+1,none⟩=some (.int .i64 e.type))(f2:w.cell? ⟨b2,o2+i*5+2,none⟩=some (.int .i64 e.add))(f3:w.cell? ⟨b2,o2+i*5+3,none⟩=some (.int .i64 e.to_))(f4:w.cell? ⟨b2,o2+i*5+4,none⟩=some (.int .i64 e.at_))
 (hQ:∀(R':List Value)(nq:Nat),R'.length=116→Ay R' 115= .bool false→Q .normal ⟨(List.toArray (v0::v1:: .pointer (some ⟨ga,0,none⟩):: .pointer (some ⟨gb,0,none⟩)::v4:: .int .i64 (i:Int)::R')), []⟩ (w.drewN nq)):
 Code.wp Tryz.prog (Hl 8) Q ⟨(List.toArray (v0::v1:: .pointer (some ⟨ga,0,none⟩):: .pointer (some ⟨gb,0,none⟩)::v4:: .int .i64 (i:Int)::R)), []⟩ w:=by
 have HQ:=Aa hQ;clear hQ;rw[Oi R hR];refine Jo ?_
 conv=>arg 2;whnf
 have a10:w.cell? ⟨ga,10,none⟩=some (.slice (some ⟨b1,o1,none⟩) y.edges.length ce):=Bi hA 10 _ rfl;have b10:w.cell? ⟨gb,10,none⟩=some (.slice (some ⟨b2,o2,none⟩) y.edges.length ce2):=Bi hB 10 _ rfl;have i0:(0:Int)≤(i:Int):=by omega
 have hne:∀W:World,(binOp .neq 92 (.agg #[.int .i64 e.off,.int .i64 e.type,.int .i64 e.add,.int .i64 e.to_,.int .i64 e.at_]) (.agg #[.int .i64 e.off,.int .i64 e.type,.int .i64 e.add,.int .i64 e.to_,.int .i64 e.at_])).run Tryz.prog W= .ok (.bool false) W:=Jpi e;clear hA hB;go_quiet (fail);exact HQ.out _ _ rfl rfl
theorem Jse{w:World}{Q:Exit→Act→World→Prop}{v0 v1 v2 v3 v4 v5:Value}{R:List Value}(hR:R.length=116)
 (hQ:∀(R':List Value),R'.length=116→Q .normal ⟨(List.toArray (v0::v1::v2::v3:: .bool true::v5::R')), []⟩ w):
 Code.wp Tryz.prog (Hl 10) Q ⟨(List.toArray (v0::v1::v2::v3::v4::v5::R)), []⟩ w:=by
 have HQ:=Aa hQ;clear hQ;rw[Oi R hR]
 conv=>arg 2;whnf
 go_wp2_with fail
 exact HQ.out _ rfl
structure Ui(w:World)(y:Ce)(pd:Option Addr)(cd:Nat)(pe:Option Addr)(ce:Nat):Prop where
 data:Bg 1 Ds w pd y.data
 edges:Bg 5 Og w pe y.edges
theorem Ui.below{w w':World}{y:Ce}{pd pe:Option Addr}{cd ce:Nat}(h:Ui w y pd cd pe ce)(hb:Below w.heap.size w w'):Ui w' y pd cd pe ce:=⟨h.data.below Ds.keeps hb,h.edges.below Og.keeps hb⟩
theorem Jsg{a:Act}{w:World}{R:Ending→World→Prop}(h:a.defers= [])(h4:a.tmps.getD 4 undef= .bool true)(hR:R (.returned (.bool true)) w):bodyPost Tryz.prog Tryz.f75 R .ret a w:=
 bodyPost_ret (v:= .bool true) (by
  simp only[Array.getD_eq_getD_getElem?]at h4
  simp[results,go_sem,h4]) h hR
theorem Jc6(y:Ce)(pd pe pd2 pe2:Option Addr)(cd ce cd2 ce2:Nat)(w:World)(hA:Ui w y pd cd pe ce)(hB:Ui w y pd2 cd2 pe2 ce2)(hl:y.edges.length≤maxLen):
 Calls Tryz.prog 75 #[.agg (Eo y pd cd pe ce),.agg (Eo y pd2 cd2 pe2 ce2)] w fun e w'=>e= .returned (.bool true)∧Below w.heap.size w w':=by
 go_enter Tryz.func75,Tryz.ntmps75;show Code.wp _ (Ib 0) _ _ _;refine Jqr (by kernel_rfl) ?_;intro R0 h0;rw[Jpr];refine wp_seq (snrg0 (y:=y) (h0) ?_);intro R1 h1;refine Ba ?_;obtain⟨q1,q2,q3⟩:=Ec w (.cells (Eo y pd cd pe ce) 86) (.cells (Eo y pd2 cd2 pe2 ce2) 86);have hX:((w.alloc (.cells (Eo y pd cd pe ce) 86)).alloc (.cells (Eo y pd2 cd2 pe2 ce2) 86)).heap[w.heap.size]?=_:=q1;have hY:((w.alloc (.cells (Eo y pd cd pe ce) 86)).alloc (.cells (Eo y pd2 cd2 pe2 ce2) 86)).heap[w.heap.size+1]?=_:=q2;have hb1:Below w.heap.size w ((w.alloc (.cells (Eo y pd cd pe ce) 86)).alloc (.cells (Eo y pd2 cd2 pe2 ce2) 86)):=((Ag _ w).alloc (Af _) _).alloc (by simp) _;generalize (w.alloc (.cells (Eo y pd cd pe ce) 86)).alloc (.cells (Eo y pd2 cd2 pe2 ce2) 86)=w1 at*;have hA1:=hA.below hb1;have hB1:=hB.below hb1;rw[Jpg];refine wp_seq (wp_seq (snrg1 (y:=y) (h1) (hX) (hY) ?_));intro R2 h2 e2;refine Ba (wp_cond_false ((Uq R2 _ _ _ _ _ _ 60).trans e2) (wp_skip (Ba ?_)));rw[Jqy];refine wp_seq (wp_seq (snrg3 (y:=y) (h2) (hX) (hY) (hA1.data.has) (hB1.data.has) ?_));intro R3 h3 e3;refine Ba (wp_cond_false ((Uq R3 _ _ _ _ _ _ 97).trans e3) (wp_skip (Ba ?_)));rw[Jqf];refine wp_seq (wp_seq (snrg5 (h3) ?_));intro R4 h4;refine Ba (wp_block (wp_loop (fun act w'=>∃(i:Nat)(R':List Value),act=⟨(List.toArray ((.agg (Eo y pd cd pe ce))::(.agg (Eo y pd2 cd2 pe2 ce2)):: .pointer (some ⟨w.heap.size,0,none⟩):: .pointer (some ⟨w.heap.size+1,0,none⟩):: .bool false:: .int .i64 (i:Int)::R')), []⟩∧R'.length=116∧i≤y.edges.length∧Below w1.heap.size w1 w') (fun act _=>y.edges.length - (intOf (act.eval (.tmp 5))).toNat) ⟨0,R4,rfl,h4,Ak _,Ag _ _⟩ ?_));rintro act w' ⟨i,R,rfl,hRl,hi,hb'⟩;rw[Jqo];refine wp_seq (wp_seq (snrg6 (y:=y) (hRl) (Cr hb' hX) ?_));intro R5 h5 e5;refine Ba ?_;by_cases hlt:i < y.edges.length
 ·refine wp_cond_true ((Uq R5 _ _ _ _ _ _ 102).trans (e5.trans (by simp[hlt]))) (wp_skip (Ba ?_));obtain⟨b1,o1,e,rfl,he,⟨a0,_⟩,⟨a1,_⟩,⟨a2,_⟩,⟨a3,_⟩,⟨a4,_⟩⟩:=(hA1.below hb').edges.at_ hlt;obtain⟨b2,o2,e',rfl,he',⟨c0,_⟩,⟨c1,_⟩,⟨c2,_⟩,⟨c3,_⟩,⟨c4,_⟩⟩:=(hB1.below hb').edges.at_ hlt;obtain rfl:e'=e:=by rw[he]at he';cases he';rfl
  refine wp_seq (wp_block ?_);rw[Jqv];refine wp_seq (snrg8 (y:=y) (e:=e') (h5) (Cr hb' hX) (Cr hb' hY) (by omega) (a0) (a1) (a2) (a3) (a4) (c0) (c1) (c2) (c3) (c4) ?_);intro R6 nq h6 e6;refine Ba (wp_cond_false ((Uq R6 _ _ _ _ _ _ 115).trans e6) (wp_skip (Ou (Ba ?_))));refine snrg7 (h6) (Al _ (by unfold maxLen at hl;omega)) ?_;intro R7 h7;refine Ba ⟨⟨i+1,R7,rfl,h7,hlt,Bq hb' nq⟩,?_⟩;show y.edges.length - ((i:Int)+1).toNat < y.edges.length - (i:Int).toNat;omega
 ·refine wp_cond_false ((Uq R5 _ _ _ _ _ _ 102).trans (e5.trans (by simp[hlt]))) (wp_exit ?_);show(Ib 10).wp _ _ _ _;rw[Jmy];refine wp_seq (Jse (h5) ?_);intro R6 h6;exact Ba (wp_ret (Jsg rfl rfl ⟨rfl,hb1.trans (hb'.mono hb1.size)⟩))
noncomputable def Fa(n:Nat):Code:=((Tryz.f30.body.bind (Hz n)).getD .skip)
noncomputable def Fc(n:Nat):Code:=((Tryz.f30.body.bind (Lo n)).getD .skip)
theorem Jqp:Fc 0= .seq (Fa 0) (Fc 1):=by kernel_rfl
theorem Jqb:Fc 1= .seq (.seq (Fa 1) (.cond (.tmp 37) (.seq (Fa 2) .ret) .skip)) (Fc 3):=by kernel_rfl
theorem Joz:Fc 3= .seq (.seq (Fa 3) (.block 0 (.loop (Fc 4)))) (Fc 9):=by kernel_rfl
theorem Jpb:Fc 4= .seq (.seq (Fa 4) (.cond (.tmp 42) .skip (.exit 0))) (.seq (.block 1 (Fc 6)) (Fa 5)):=by kernel_rfl
theorem Jq3:Fc 6= .seq (Fa 6) (Fc 7):=by kernel_rfl
theorem Jpu:Fc 7= .seq (Fa 7) (.cond (.tmp 57) (.seq (Fa 8) .ret) .skip):=by kernel_rfl
theorem Jqg:Fc 9= .seq (.seq (Fa 9) (.block 2 (.loop (Fc 10)))) (Fc 14):=by kernel_rfl
theorem Jod:Fc 10= .seq (.seq (Fa 10) (.cond (.tmp 62) .skip (.exit 2))) (.seq (.block 3 (Fc 12)) (Fa 11)):=by kernel_rfl
theorem Jn4:Fc 12= .seq (Fa 12) (.cond (.tmp 75) (.seq (Fa 13) .ret) .skip):=by kernel_rfl
theorem Jny:Fc 14= .seq (Fa 14) .ret:=by kernel_rfl
theorem Qp(R:List Value)(v0 v1 v2 v3 v4 v5 v6 v7:Value)(k:Nat):(⟨(List.toArray (v0::v1::v2::v3::v4::v5::v6::v7::R)), []⟩:Act).eval (.tmp (8+k))=Ay R k:=by
 show Array.getD _ _ _=R.getD k undef;rw[Array.getD_eq_getD_getElem?,List.getElem?_toArray,List.getD_eq_getElem?_getD,show 8+k=k+8 by omega];rfl
theorem Ku(R:List Value)(h:R.length=68):R= [Ay R 0,Ay R 1,Ay R 2,Ay R 3,Ay R 4,Ay R 5,Ay R 6,Ay R 7,Ay R 8,Ay R 9,Ay R 10,Ay R 11,Ay R 12,Ay R 13,Ay R 14,Ay R 15,Ay R 16,Ay R 17,Ay R 18,Ay R 19,Ay R 20,Ay R 21,Ay R 22,Ay R 23,Ay R 24,Ay R 25,Ay R 26,Ay R 27,Ay R 28,Ay R 29,Ay R 30,Ay R 31,Ay R 32,Ay R 33,Ay R 34,Ay R 35,Ay R 36,Ay R 37,Ay R 38,Ay R 39,Ay R 40,Ay R 41,Ay R 42,Ay R 43,Ay R 44,Ay R 45,Ay R 46,Ay R 47,Ay R 48,Ay R 49,Ay R 50,Ay R 51,Ay R 52,Ay R 53,Ay R 54,Ay R 55,Ay R 56,Ay R 57,Ay R 58,Ay R 59,Ay R 60,Ay R 61,Ay R 62,Ay R 63,Ay R 64,Ay R 65,Ay R 66,Ay R 67]:=by
 have e:=Ra R;rw[h]at e;exact e.trans (by kernel_rfl)
theorem Jpw{P:Program}{Q:Exit→Act→World→Prop}{w:World}{c:Code}{v0 v1 v2 v3 v4 v5 v6 v7:Value}{R:List Value}(h:R.length=68)(k:∀R:List Value,R.length=68→c.wp P Q ⟨(List.toArray (v0::v1::v2::v3::v4::v5::v6::v7::R)), []⟩ w):c.wp P Q ⟨(List.toArray (v0::v1::v2::v3::v4::v5::v6::v7::R)), []⟩ w:=k R h
theorem sarg0{p0 p3 q0 q3:Option Addr}{nn mn c0 c3 d0 d3:Nat}{t a:Int}{w:World}{Q:Exit→Act→World→Prop}{v2 v3 v4 v5 v6 v7:Value}{R:List Value}(hR:R.length=68)
 (hQ:∀(R':List Value),R'.length=68→Q .normal ⟨(List.toArray ((.agg #[.slice p0 nn c0,.int .i64 t,.int .i64 a,.slice p3 mn c3])::(.agg #[.slice q0 nn d0,.int .i64 t,.int .i64 a,.slice q3 mn d3]):: .pointer (some ⟨w.heap.size,0,none⟩):: .pointer (some ⟨w.heap.size+1,0,none⟩):: .bool false::v5::v6::v7::R')), []⟩ ((w.alloc (.cells #[.slice p0 nn c0,.int .i64 t,.int .i64 a,.slice p3 mn c3] 77)).alloc (.cells #[.slice q0 nn d0,.int .i64 t,.int .i64 a,.slice q3 mn d3] 77))):
 Code.wp Tryz.prog (Fa 0) Q ⟨(List.toArray ((.agg #[.slice p0 nn c0,.int .i64 t,.int .i64 a,.slice p3 mn c3])::(.agg #[.slice q0 nn d0,.int .i64 t,.int .i64 a,.slice q3 mn d3])::v2::v3::v4::v5::v6::v7::R)), []⟩ w:=by
 have HQ:=Aa hQ;clear hQ;rw[Ku R hR]
 conv=>arg 2;whnf
 go_wp2_with fail
 exact HQ.out _ rfl
theorem sarg1{ga gb:Nat}{p0 p3 q0 q3:Option Addr}{nn mn c0 c3 d0 d3:Nat}{t a:Int}{w:World}{Q:Exit→Act→World→Prop}{v0 v1 v4 v5 v6 v7:Value}{R:List Value}(hR:R.length=68)
 (hA:w.heap[ga]?=some (.cells #[.slice p0 nn c0,.int .i64 t,.int .i64 a,.slice p3 mn c3] 77 (0,0)))(hB:w.heap[gb]?=some (.cells #[.slice q0 nn d0,.int .i64 t,.int .i64 a,.slice q3 mn d3] 77 (0,0)))
 (hQ:∀(R':List Value),R'.length=68→Ay R' 29= .bool false→Q .normal ⟨(List.toArray (v0::v1:: .pointer (some ⟨ga,0,none⟩):: .pointer (some ⟨gb,0,none⟩)::v4::v5::v6::v7::R')), []⟩ w):
 Code.wp Tryz.prog (Fa 1) Q ⟨(List.toArray (v0::v1:: .pointer (some ⟨ga,0,none⟩):: .pointer (some ⟨gb,0,none⟩)::v4::v5::v6::v7::R)), []⟩ w:=by
 have HQ:=Aa hQ;clear hQ;rw[Ku R hR]
 conv=>arg 2;whnf
 obtain⟨a0,a1,a2,a3⟩:=Cp _ _ _ _ _ _ _ hA;obtain⟨r0,r1,r2,r3⟩:=Cp _ _ _ _ _ _ _ hB;clear hA hB;go_wp2_with fail
 exact HQ.out _ rfl rfl
theorem sarg3{w:World}{Q:Exit→Act→World→Prop}{v0 v1 v2 v3 v4 v5 v6 v7:Value}{R:List Value}(hR:R.length=68)
 (hQ:∀(R':List Value),R'.length=68→Q .normal ⟨(List.toArray (v0::v1::v2::v3::v4:: .int .i64 0::v6::v7::R')), []⟩ w):
 Code.wp Tryz.prog (Fa 3) Q ⟨(List.toArray (v0::v1::v2::v3::v4::v5::v6::v7::R)), []⟩ w:=by
 have HQ:=Aa hQ;clear hQ;rw[Ku R hR]
 conv=>arg 2;whnf
 go_wp2_with fail
 exact HQ.out _ rfl
theorem sarg4{ga i:Nat}{p0 p3:Option Addr}{nn mn c0 c3:Nat}{t a:Int}{w:World}{Q:Exit→Act→World→Prop}{v0 v1 v3 v4 v6 v7:Value}{R:List Value}(hR:R.length=68)
 (hA:w.heap[ga]?=some (.cells #[.slice p0 nn c0,.int .i64 t,.int .i64 a,.slice p3 mn c3] 77 (0,0)))
 (hQ:∀(R':List Value),R'.length=68→Ay R' 34= .bool (decide (i < nn))→Q .normal ⟨(List.toArray (v0::v1:: .pointer (some ⟨ga,0,none⟩)::v3::v4:: .int .i64 (i:Int)::v6::v7::R')), []⟩ w):
 Code.wp Tryz.prog (Fa 4) Q ⟨(List.toArray (v0::v1:: .pointer (some ⟨ga,0,none⟩)::v3::v4:: .int .i64 (i:Int)::v6::v7::R)), []⟩ w:=by
 have HQ:=Aa hQ;clear hQ;rw[Ku R hR]
 conv=>arg 2;whnf
 obtain⟨a0,a1,a2,a3⟩:=Cp _ _ _ _ _ _ _ hA;clear hA;go_wp2_with fail
 exact HQ.out _ rfl rfl
theorem sarg5{i:Nat}{w:World}{Q:Exit→Act→World→Prop}{v0 v1 v2 v3 v4 v6 v7:Value}{R:List Value}(hR:R.length=68)
 (kw:IntKind.i64.wrap ((i:Int)+1)=(i:Int)+1)
 (hQ:∀(R':List Value),R'.length=68→Q .normal ⟨(List.toArray (v0::v1::v2::v3::v4:: .int .i64 ((i:Int)+1)::v6::v7::R')), []⟩ w):
 Code.wp Tryz.prog (Fa 5) Q ⟨(List.toArray (v0::v1::v2::v3::v4:: .int .i64 (i:Int)::v6::v7::R)), []⟩ w:=by
 have HQ:=Aa hQ;clear hQ;rw[Ku R hR]
 conv=>arg 2;whnf
 go_wp2_with fail
 exact HQ.out _ rfl
theorem sarg6{ga gb i b1 o1 b2 o2 nn mn c0 c3 d0 d3:Nat}{p3 q3:Option Addr}{t a:Int}{y:Ce}{pd pe pd2 pe2:Option Addr}{cd ce cd2 ce2:Nat}{w:World}{Q:Exit→Act→World→Prop}{v0 v1 v4 v6 v7:Value}{R:List Value}(hR:R.length=68)
 (hA:w.heap[ga]?=some (.cells #[.slice (some ⟨b1,o1,none⟩) nn c0,.int .i64 t,.int .i64 a,.slice p3 mn c3] 77 (0,0)))(hB:w.heap[gb]?=some (.cells #[.slice (some ⟨b2,o2,none⟩) nn d0,.int .i64 t,.int .i64 a,.slice q3 mn d3] 77 (0,0)))(hi:(i:Int) < (nn:Int))(e0:w.cell? ⟨b1,o1+i*14,none⟩=some (.int .i64 y.obj))(e1:w.cell? ⟨b1,o1+i*14+1,none⟩=some (.int .i64 y.sec))(e2:w.cell? ⟨b1,o1+i*14+2,none⟩=some (.int .i64 y.pos))(e3:w.cell? ⟨b1,o1+i*14+3,none⟩=some (.string y.name))(e4:w.cell? ⟨b1,o1+i*14+4,none⟩=some (.int .i64 y.type))(e5:w.cell? ⟨b1,o1+i*14+5,none⟩=some (.int .i64 y.flags))(e6:w.cell? ⟨b1,o1+i*14+6,none⟩=some (.int .i64 y.align))(e7:w.cell? ⟨b1,o1+i*14+7,none⟩=some (.int .i64 y.ent))(e8:w.cell? ⟨b1,o1+i*14+8,none⟩=some (.int .i64 y.size))(e9:w.cell? ⟨b1,o1+i*14+9,none⟩=some (.slice pd y.data.length cd))(e10:w.cell? ⟨b1,o1+i*14+10,none⟩=some (.slice pe y.edges.length ce))(e11:w.cell? ⟨b1,o1+i*14+11,none⟩=some (.bool y.unique))(e12:w.cell? ⟨b1,o1+i*14+12,none⟩=some (.int .i64 y.group))(e13:w.cell? ⟨b1,o1+i*14+13,none⟩=some (.int .i64 y.link))(f0:w.cell? ⟨b2,o2+i*14,none⟩=some (.int .i64 y.obj))(f1:w.cell? ⟨b2,o2+i*14+1,none⟩=some (.int .i64 y.sec))(f2:w.cell? ⟨b2,o2+i*14+2,none⟩=some (.int .i64 y.pos))(f3:w.cell? ⟨b2,o2+i*14+3,none⟩=some (.string y.name))(f4:w.cell? ⟨b2,o2+i*14+4,none⟩=some (.int .i64 y.type))(f5:w.cell? ⟨b2,o2+i*14+5,none⟩=some (.int .i64 y.flags))(f6:w.cell? ⟨b2,o2+i*14+6,none⟩=some (.int .i64 y.align))(f7:w.cell? ⟨b2,o2+i*14+7,none⟩=some (.int .i64 y.ent))(f8:w.cell? ⟨b2,o2+i*14+8,none⟩=some (.int .i64 y.size))(f9:w.cell? ⟨b2,o2+i*14+9,none⟩=some (.slice pd2 y.data.length cd2))(f10:w.cell? ⟨b2,o2+i*14+10,none⟩=some (.slice pe2 y.edges.length ce2))(f11:w.cell? ⟨b2,o2+i*14+11,none⟩=some (.bool y.unique))(f12:w.cell? ⟨b2,o2+i*14+12,none⟩=some (.int .i64 y.group))(f13:w.cell? ⟨b2,o2+i*14+13,none⟩=some (.int .i64 y.link))
 (hC:∀W,Below w.heap.size w W→Calls Tryz.prog 75 #[.agg (Eo y pd cd pe ce),.agg (Eo y pd2 cd2 pe2 ce2)] W fun e w'=>e= .returned (.bool true)∧Below W.heap.size W w')
 (hQ:∀(R':List Value)(w':World),R'.length=68→Below w.heap.size w w'→Q .normal ⟨(List.toArray (v0::v1:: .pointer (some ⟨ga,0,none⟩):: .pointer (some ⟨gb,0,none⟩)::v4:: .int .i64 (i:Int):: .bool true::v7::R')), []⟩ w'):
 Code.wp Tryz.prog (Fa 6) Q ⟨(List.toArray (v0::v1:: .pointer (some ⟨ga,0,none⟩):: .pointer (some ⟨gb,0,none⟩)::v4:: .int .i64 (i:Int)::v6::v7::R)), []⟩ w:=by
 have HQ:=Aa hQ;clear hQ;rw[Ku R hR];refine Jo ?_
 conv=>arg 2;whnf
 have HC:=Aa hC;obtain⟨a0,a1,a2,a3⟩:=Cp _ _ _ _ _ _ _ hA;obtain⟨r0,r1,r2,r3⟩:=Cp _ _ _ _ _ _ _ hB;clear hA hB;have i0:(0:Int)≤(i:Int):=by omega
 clear hC;go_still_tail 10,(by kernel_rfl)
 go_wp2_with fail
 refine(HC.out _ (Ag _ w).drew).mono ?_;rintro e w1 ⟨rfl,hb⟩;have hb2:Below w.heap.size w w1:=(Ag _ w).drew.trans hb;have HB:=Aa hb2;clear hb hb2 a0 a1 a2 a3;clear e0 e1 e2 e3 e4 e5 e6 e7 e8 e9 e10 e11 e12 e13 f0 f1 f2 f3 f4 f5 f6 f7 f8 f9 f10 f11 f12 f13;go_wp2_with fail
 exact HQ.out _ w1 rfl HB.out
theorem sarg7{w:World}{Q:Exit→Act→World→Prop}{v0 v1 v2 v3 v4 v5 v7:Value}{R:List Value}(hR:R.length=68)
 (hQ:∀(R':List Value),R'.length=68→Ay R' 49= .bool false→Q .normal ⟨(List.toArray (v0::v1::v2::v3::v4::v5:: .bool true::v7::R')), []⟩ w):
 Code.wp Tryz.prog (Fa 7) Q ⟨(List.toArray (v0::v1::v2::v3::v4::v5:: .bool true::v7::R)), []⟩ w:=by
 have HQ:=Aa hQ;clear hQ;rw[Ku R hR]
 conv=>arg 2;whnf
 go_wp2_with fail
 exact HQ.out _ rfl rfl
theorem sarg9{w:World}{Q:Exit→Act→World→Prop}{v0 v1 v2 v3 v4 v5 v6 v7:Value}{R:List Value}(hR:R.length=68)
 (hQ:∀(R':List Value),R'.length=68→Q .normal ⟨(List.toArray (v0::v1::v2::v3::v4::v5::v6:: .int .i64 0::R')), []⟩ w):
 Code.wp Tryz.prog (Fa 9) Q ⟨(List.toArray (v0::v1::v2::v3::v4::v5::v6::v7::R)), []⟩ w:=by
 have HQ:=Aa hQ;clear hQ;rw[Ku R hR]
 conv=>arg 2;whnf
 go_wp2_with fail
 exact HQ.out _ rfl
theorem Jri{ga i:Nat}{p0 p3:Option Addr}{nn mn c0 c3:Nat}{t a:Int}{w:World}{Q:Exit→Act→World→Prop}{v0 v1 v3 v4 v5 v6:Value}{R:List Value}(hR:R.length=68)
 (hA:w.heap[ga]?=some (.cells #[.slice p0 nn c0,.int .i64 t,.int .i64 a,.slice p3 mn c3] 77 (0,0)))
 (hQ:∀(R':List Value),R'.length=68→Ay R' 54= .bool (decide (i < mn))→Q .normal ⟨(List.toArray (v0::v1:: .pointer (some ⟨ga,0,none⟩)::v3::v4::v5::v6:: .int .i64 (i:Int)::R')), []⟩ w):
 Code.wp Tryz.prog (Fa 10) Q ⟨(List.toArray (v0::v1:: .pointer (some ⟨ga,0,none⟩)::v3::v4::v5::v6:: .int .i64 (i:Int)::R)), []⟩ w:=by
 have HQ:=Aa hQ;clear hQ;rw[Ku R hR]
 conv=>arg 2;whnf
 obtain⟨a0,a1,a2,a3⟩:=Cp _ _ _ _ _ _ _ hA;clear hA;go_wp2_with fail
 exact HQ.out _ rfl rfl
theorem Jsi{i:Nat}{w:World}{Q:Exit→Act→World→Prop}{v0 v1 v2 v3 v4 v5 v6:Value}{R:List Value}(hR:R.length=68)
 (kw:IntKind.i64.wrap ((i:Int)+1)=(i:Int)+1)
 (hQ:∀(R':List Value),R'.length=68→Q .normal ⟨(List.toArray (v0::v1::v2::v3::v4::v5::v6:: .int .i64 ((i:Int)+1)::R')), []⟩ w):
 Code.wp Tryz.prog (Fa 11) Q ⟨(List.toArray (v0::v1::v2::v3::v4::v5::v6:: .int .i64 (i:Int)::R)), []⟩ w:=by
 have HQ:=Aa hQ;clear hQ;rw[Ku R hR]
 conv=>arg 2;whnf
 go_wp2_with fail
 exact HQ.out _ rfl
theorem Jrl{ga gb i b1 o1 b2 o2 nn mn c0 c3 d0 d3:Nat}{p0 q0:Option Addr}{t a:Int}{m:NmD}{w:World}{Q:Exit→Act→World→Prop}{v0 v1 v4 v5 v6:Value}{R:List Value}(hR:R.length=68)
 (hA:w.heap[ga]?=some (.cells #[.slice p0 nn c0,.int .i64 t,.int .i64 a,.slice (some ⟨b1,o1,none⟩) mn c3] 77 (0,0)))(hB:w.heap[gb]?=some (.cells #[.slice q0 nn d0,.int .i64 t,.int .i64 a,.slice (some ⟨b2,o2,none⟩) mn d3] 77 (0,0)))(hi:(i:Int) < (mn:Int))(e0:w.cell? ⟨b1,o1+i*3,none⟩=some (.string m.name))(e1:w.cell? ⟨b1,o1+i*3+1,none⟩=some (.int .i64 m.to_))(e2:w.cell? ⟨b1,o1+i*3+2,none⟩=some (.int .i64 m.at_))(f0:w.cell? ⟨b2,o2+i*3,none⟩=some (.string m.name))(f1:w.cell? ⟨b2,o2+i*3+1,none⟩=some (.int .i64 m.to_))(f2:w.cell? ⟨b2,o2+i*3+2,none⟩=some (.int .i64 m.at_))
 (hQ:∀(R':List Value)(nq:Nat),R'.length=68→Ay R' 67= .bool false→Q .normal ⟨(List.toArray (v0::v1:: .pointer (some ⟨ga,0,none⟩):: .pointer (some ⟨gb,0,none⟩)::v4::v5::v6:: .int .i64 (i:Int)::R')), []⟩ (w.drewN nq)):
 Code.wp Tryz.prog (Fa 12) Q ⟨(List.toArray (v0::v1:: .pointer (some ⟨ga,0,none⟩):: .pointer (some ⟨gb,0,none⟩)::v4::v5::v6:: .int .i64 (i:Int)::R)), []⟩ w:=by
 have HQ:=Aa hQ;clear hQ;rw[Ku R hR];refine Jo ?_
 conv=>arg 2;whnf
 obtain⟨a0,a1,a2,a3⟩:=Cp _ _ _ _ _ _ _ hA;obtain⟨r0,r1,r2,r3⟩:=Cp _ _ _ _ _ _ _ hB;clear hA hB;have i0:(0:Int)≤(i:Int):=by omega
 have hne:=Jp6 m;go_quiet (fail);exact HQ.out _ _ rfl rfl
theorem Jsq{w:World}{Q:Exit→Act→World→Prop}{v0 v1 v2 v3 v4 v5 v6 v7:Value}{R:List Value}(hR:R.length=68)
 (hQ:∀(R':List Value),R'.length=68→Q .normal ⟨(List.toArray (v0::v1::v2::v3:: .bool true::v5::v6::v7::R')), []⟩ w):
 Code.wp Tryz.prog (Fa 14) Q ⟨(List.toArray (v0::v1::v2::v3::v4::v5::v6::v7::R)), []⟩ w:=by
 have HQ:=Aa hQ;clear hQ;rw[Ku R hR]
 conv=>arg 2;whnf
 go_wp2_with fail
 exact HQ.out _ rfl
theorem Jrb{a:Act}{w:World}{R:Ending→World→Prop}(h:a.defers= [])(h4:a.tmps.getD 4 undef= .bool true)(hR:R (.returned (.bool true)) w):bodyPost Tryz.prog Tryz.f30 R .ret a w:=
 bodyPost_ret (v:= .bool true) (by
  simp only[Array.getD_eq_getD_getElem?]at h4
  simp[results,go_sem,h4]) h hR
theorem Jed(g:Iq)(p0 p3 q0 q3:Option Addr)(c0 c3 d0 d3:Nat)(w:World)(hn:Bg 14 Jg w p0 g.nodes)(hm:Bg 3 ENm w p3 g.names)(kn:Bg 14 Jg w q0 g.nodes)(km:Bg 3 ENm w q3 g.names)(hl:g.nodes.length≤maxLen)(hl2:g.names.length≤maxLen):
 Calls Tryz.prog 30 #[.agg #[.slice p0 g.nodes.length c0,.int .i64 g.to_,.int .i64 g.at_,.slice p3 g.names.length c3],.agg #[.slice q0 g.nodes.length d0,.int .i64 g.to_,.int .i64 g.at_,.slice q3 g.names.length d3]] w fun e w'=>e= .returned (.bool true)∧Below w.heap.size w w':=by
 have HNL:=hl;unfold maxLen at hl hl2;go_enter Tryz.func30,Tryz.ntmps30;show Code.wp _ (Fc 0) _ _ _;refine Jpw (by kernel_rfl) ?_;intro R0 h0;rw[Jqp];refine wp_seq (sarg0 (h0) ?_);intro R1 h1;refine Ba ?_;obtain⟨q1,q2,q3'⟩:=Ec w (.cells #[.slice p0 g.nodes.length c0,.int .i64 g.to_,.int .i64 g.at_,.slice p3 g.names.length c3] 77) (.cells #[.slice q0 g.nodes.length d0,.int .i64 g.to_,.int .i64 g.at_,.slice q3 g.names.length d3] 77);have hX:((w.alloc (.cells #[.slice p0 g.nodes.length c0,.int .i64 g.to_,.int .i64 g.at_,.slice p3 g.names.length c3] 77)).alloc (.cells #[.slice q0 g.nodes.length d0,.int .i64 g.to_,.int .i64 g.at_,.slice q3 g.names.length d3] 77)).heap[w.heap.size]?=_:=q1;have hY:((w.alloc (.cells #[.slice p0 g.nodes.length c0,.int .i64 g.to_,.int .i64 g.at_,.slice p3 g.names.length c3] 77)).alloc (.cells #[.slice q0 g.nodes.length d0,.int .i64 g.to_,.int .i64 g.at_,.slice q3 g.names.length d3] 77)).heap[w.heap.size+1]?=_:=q2;have hb1:Below w.heap.size w ((w.alloc (.cells #[.slice p0 g.nodes.length c0,.int .i64 g.to_,.int .i64 g.at_,.slice p3 g.names.length c3] 77)).alloc (.cells #[.slice q0 g.nodes.length d0,.int .i64 g.to_,.int .i64 g.at_,.slice q3 g.names.length d3] 77)):=((Ag _ w).alloc (Af _) _).alloc (by simp) _;generalize (w.alloc (.cells #[.slice p0 g.nodes.length c0,.int .i64 g.to_,.int .i64 g.at_,.slice p3 g.names.length c3] 77)).alloc (.cells #[.slice q0 g.nodes.length d0,.int .i64 g.to_,.int .i64 g.at_,.slice q3 g.names.length d3] 77)=w1 at*;have hn1:=hn.below Jg.keeps hb1;have kn1:=kn.below Jg.keeps hb1;have hm1:=hm.below ENm.keeps hb1;have km1:=km.below ENm.keeps hb1;rw[Jqb];refine wp_seq (wp_seq (sarg1 (h1) (hX) (hY) ?_));intro R2 h2 e2;refine Ba (wp_cond_false ((Qp R2 _ _ _ _ _ _ _ _ 29).trans e2) (wp_skip (Ba ?_)));rw[Joz];refine wp_seq (wp_seq (sarg3 (h2) ?_));intro R3 h3;refine Ba (wp_block (wp_loop (fun act w'=>∃(i:Nat)(v6:Value)(R':List Value),act=⟨(List.toArray ((.agg #[.slice p0 g.nodes.length c0,.int .i64 g.to_,.int .i64 g.at_,.slice p3 g.names.length c3])::(.agg #[.slice q0 g.nodes.length d0,.int .i64 g.to_,.int .i64 g.at_,.slice q3 g.names.length d3]):: .pointer (some ⟨w.heap.size,0,none⟩):: .pointer (some ⟨w.heap.size+1,0,none⟩):: .bool false:: .int .i64 (i:Int)::v6::undef::R')), []⟩∧R'.length=68∧i≤g.nodes.length∧Below w1.heap.size w1 w') (fun act _=>g.nodes.length - (intOf (act.eval (.tmp 5))).toNat) ⟨0,_,R3,rfl,h3,Ak _,Ag _ _⟩ ?_));rintro act w' ⟨i,v6,R,rfl,hRl,hi,hb'⟩;rw[Jpb];refine wp_seq (wp_seq (sarg4 (hRl) (Cr hb' hX) ?_));intro R4 h4 e4;refine Ba ?_;by_cases hlt:i < g.nodes.length
 ·refine wp_cond_true ((Qp R4 _ _ _ _ _ _ _ _ 34).trans (e4.trans (by simp[hlt]))) (wp_skip (Ba ?_));obtain⟨b1,o1,y,rfl,hy,⟨x0,_⟩,⟨x1,_⟩,⟨x2,_⟩,⟨x3,_⟩,⟨x4,_⟩,⟨x5,_⟩,⟨x6,_⟩,⟨x7,_⟩,⟨x8,_⟩,⟨u9,x9,hD⟩,⟨u10,x10,hE⟩,x11,⟨x12,_⟩,⟨x13,_⟩⟩:=(hn1.below Jg.keeps hb').at_ hlt;obtain⟨b2,o2,y',rfl,hy',⟨z0,_⟩,⟨z1,_⟩,⟨z2,_⟩,⟨z3,_⟩,⟨z4,_⟩,⟨z5,_⟩,⟨z6,_⟩,⟨z7,_⟩,⟨z8,_⟩,⟨t9,z9,hD'⟩,⟨t10,z10,hE'⟩,z11,⟨z12,_⟩,⟨z13,_⟩⟩:=(kn1.below Jg.keeps hb').at_ hlt;obtain rfl:y'=y:=by rw[hy]at hy';cases hy';rfl
  obtain⟨pd,cd,rfl,_,_,_,hdh⟩:=hD;obtain⟨pe,ce,rfl,he1,he2,_,heh⟩:=hE;obtain⟨pd2,cd2,rfl,_,_,_,hdh2⟩:=hD';obtain⟨pe2,ce2,rfl,_,_,_,heh2⟩:=hE';refine wp_seq (wp_block ?_);rw[Jq3];refine wp_seq (sarg6 (y:=y') (h4) (Cr hb' hX) (Cr hb' hY) (by omega) (x0) (x1) (x2) (x3) (x4) (x5) (x6) (x7) (x8) (x9) (x10) (x11) (x12) (x13) (z0) (z1) (z2) (z3) (z4) (z5) (z6) (z7) (z8) (z9) (z10) (z11) (z12) (z13) (fun W hW=>Jc6 y' pd pe pd2 pe2 cd ce cd2 ce2 W ⟨hdh.below Ds.keeps hW,heh.below Og.keeps hW⟩ ⟨hdh2.below Ds.keeps hW,heh2.below Og.keeps hW⟩ (by omega)) ?_);intro R5 w3 h5 hb3;refine Ba ?_;rw[Jpu];refine wp_seq (sarg7 (h5) ?_);intro R6 h6 e6;refine Ba (wp_cond_false ((Qp R6 _ _ _ _ _ _ _ _ 49).trans e6) (wp_skip (Ou (Ba ?_))));refine sarg5 (h6) (Al _ (by omega)) ?_;intro R7 h7;refine Ba ⟨⟨i+1,_,R7,rfl,h7,hlt,hb'.trans (hb3.mono hb'.size)⟩,?_⟩;show g.nodes.length - ((i:Int)+1).toNat < g.nodes.length - (i:Int).toNat;omega
 ·refine wp_cond_false ((Qp R4 _ _ _ _ _ _ _ _ 34).trans (e4.trans (by simp[hlt]))) (wp_exit ?_);show(Fc 9).wp _ _ _ _;rw[Jqg];refine wp_seq (wp_seq (sarg9 (h4) ?_));intro R5 h5;refine Ba (wp_block (wp_loop (fun act w''=>∃(j:Nat)(R':List Value),act=⟨(List.toArray ((.agg #[.slice p0 g.nodes.length c0,.int .i64 g.to_,.int .i64 g.at_,.slice p3 g.names.length c3])::(.agg #[.slice q0 g.nodes.length d0,.int .i64 g.to_,.int .i64 g.at_,.slice q3 g.names.length d3]):: .pointer (some ⟨w.heap.size,0,none⟩):: .pointer (some ⟨w.heap.size+1,0,none⟩):: .bool false:: .int .i64 (i:Int)::v6:: .int .i64 (j:Int)::R')), []⟩∧R'.length=68∧j≤g.names.length∧Below w'.heap.size w' w'') (fun act _=>g.names.length - (intOf (act.eval (.tmp 7))).toNat) ⟨0,R5,rfl,h5,Ak _,Ag _ _⟩ ?_));rintro act w'' ⟨j,R,rfl,hRl,hj,hb2⟩;have hb12:=hb'.trans (hb2.mono hb'.size);rw[Jod];refine wp_seq (wp_seq (Jri (hRl) (Cr hb12 hX) ?_));intro R6 h6 e6;refine Ba ?_;by_cases hlt2:j < g.names.length
  ·refine wp_cond_true ((Qp R6 _ _ _ _ _ _ _ _ 54).trans (e6.trans (by simp[hlt2]))) (wp_skip (Ba ?_));obtain⟨b1,o1,m,rfl,hmm,⟨x0,_⟩,⟨x1,_⟩,⟨x2,_⟩⟩:=(hm1.below ENm.keeps hb12).at_ hlt2;obtain⟨b2,o2,m',rfl,hmm',⟨z0,_⟩,⟨z1,_⟩,⟨z2,_⟩⟩:=(km1.below ENm.keeps hb12).at_ hlt2;obtain rfl:m'=m:=by rw[hmm]at hmm';cases hmm';rfl
   refine wp_seq (wp_block ?_);rw[Jn4];refine wp_seq (Jrl (m:=m') (h6) (Cr hb12 hX) (Cr hb12 hY) (by omega) (x0) (x1) (x2) (z0) (z1) (z2) ?_);intro R7 nq h7 e7;refine Ba (wp_cond_false ((Qp R7 _ _ _ _ _ _ _ _ 67).trans e7) (wp_skip (Ou (Ba ?_))));refine Jsi (h7) (Al _ (by omega)) ?_;intro R8 h8;refine Ba ⟨⟨j+1,R8,rfl,h8,hlt2,Bq hb2 nq⟩,?_⟩;show g.names.length - ((j:Int)+1).toNat < g.names.length - (j:Int).toNat;omega
  ·refine wp_cond_false ((Qp R6 _ _ _ _ _ _ _ _ 54).trans (e6.trans (by simp[hlt2]))) (wp_exit ?_);show(Fc 14).wp _ _ _ _;rw[Jny];refine wp_seq (Jsq (h6) ?_);intro R7 h7;exact Ba (wp_ret (Jrb rfl rfl ⟨rfl,hb1.trans (hb12.mono hb1.size)⟩))
theorem Jkh{r:Option Iq}{csa csb:Array Value}{w:World}(ha:Gr w csa r)(hb:Gr w csb r):Calls Tryz.prog 30 #[.agg csa,.agg csb] w fun e w'=>e= .returned (.bool true)∧Below w.heap.size w w':=by
 cases r with
 |none=>
  cases ha;cases hb;exact Jed ⟨[],0,0, []⟩ none none none none 0 0 0 0 w (fun i x hx=>by simp at hx) (fun i x hx=>by simp at hx) (fun i x hx=>by simp at hx) (fun i x hx=>by simp at hx) (Ak _) (Ak _)
 |some g=>
  obtain⟨v0,v3,rfl,⟨p0,c0,rfl,h1,h2,_,h3⟩,⟨p3,c3,rfl,h4,h5,_,h6⟩⟩:=ha;obtain⟨u0,u3,rfl,⟨q0,d0,rfl,_,_,_,k3⟩,⟨q3,d3,rfl,_,_,_,k6⟩⟩:=hb;exact Jed g p0 p3 q0 q3 c0 c3 d0 d3 w h3 h6 k3 k6 (Aw h1 h2) (Aw h4 h5)
end Go.Proofs.YteopgmieindojaaGreat
