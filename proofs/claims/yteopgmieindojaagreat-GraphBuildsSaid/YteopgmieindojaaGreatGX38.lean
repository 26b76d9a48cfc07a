/- Parts of a proof. -/
import Derived.Test.YteopgmieindojaaGreatGX37
import Derived.Test.YteopgmieindojaaGreatGX08
import Derived.Test.YteopgmieindojaaGreatGX30
import Derived.Deep.RegionHeld3
import Derived.Test.YteopgmieindojaaGreatGX01
set_option maxRecDepth 1000000
set_option maxHeartbeats 8000000
namespace Go.Proofs.YteopgmieindojaaGreat
open Go.RowKit
def Jsh:Prop:=∀(t:Six)(w:World),(t.may→Calls Tryz.prog 179 #[t.v] w (Fe (entB t) w))∧(¬t.may→Calls Tryz.prog 179 #[t.v] w (Md 0 [] w))
def inB(n m:Int):Bool:=decide (0≤n)&&decide (n≤m)
theorem Jql(n m:Int):inB n m=true ↔ 0≤n∧n≤m:=by simp[inB]
theorem Km(n m:Int)(w:World):Calls Tryz.prog 221 #[.int .i64 n,.int .i64 m] w fun e w'=>e= .returned (.bool (inB n m))∧w=w':=by
 by_cases h0:0≤n
 ·by_cases h1:n≤m
  ·have H:Hid (inB n m=true):=Aa (by simp[inB,h0,h1]);go_enter Tryz.func221,Tryz.ntmps221;go_wp2_with fail
   go_ret;exact⟨Ee H.out.symm,rfl⟩
  ·have H:Hid (inB n m=false):=Aa (by simp[inB,h1]);go_enter Tryz.func221,Tryz.ntmps221;go_wp2_with fail
   go_ret;exact⟨Ee H.out.symm,rfl⟩
 ·have H:Hid (inB n m=false):=Aa (by simp[inB,h0]);go_enter Tryz.func221,Tryz.ntmps221;go_wp2_with fail
  go_ret;exact⟨Ee H.out.symm,rfl⟩
theorem Jqj(t:Six):t.may ↔ inB t.a 2147483647=true∧inB t.b 2=true∧inB t.c 3=true∧inB t.d 65535=true∧inB t.e 2147483647=true∧inB t.f 2147483647=true:=by
 unfold Six.may;simp only[Bv,Jql];omega
theorem Jey(t:Six)(w:World):Calls Tryz.prog 204 #[t.v] w fun e w'=>e= .returned (.bool (decide t.may))∧Below w.heap.size w w':=by
 have hb:=(Ag _ w).alloc (Af _) (.cells #[.int .i64 t.a,.int .i64 t.b,.int .i64 t.c,.int .i64 t.d,.int .i64 t.e,.int .i64 t.f] 281);have hm:=Jqj t;cases hA:inB t.a 2147483647 with
 |false=>
  have HM:Hid (decide t.may=false):=Aa (Ai (by rw[hm,hA];simp));clear hm;go_enter Tryz.func204,Tryz.ntmps204;go_wp2_with (go_at_call 221;refine(Km _ _ _).mono ?_;rintro e w' ⟨rfl,rfl⟩)
  go_ret;exact⟨Ee HM.out.symm,hb⟩
 |true=>
  cases hB:inB t.b 2 with
  |false=>
   have HM:Hid (decide t.may=false):=Aa (Ai (by rw[hm,hB];simp));clear hm;go_enter Tryz.func204,Tryz.ntmps204;go_wp2_with (go_at_call 221;refine(Km _ _ _).mono ?_;rintro e w' ⟨rfl,rfl⟩)
   go_ret;exact⟨Ee HM.out.symm,hb⟩
  |true=>
   cases hC:inB t.c 3 with
   |false=>
    have HM:Hid (decide t.may=false):=Aa (Ai (by rw[hm,hC];simp));clear hm;go_enter Tryz.func204,Tryz.ntmps204;go_wp2_with (go_at_call 221;refine(Km _ _ _).mono ?_;rintro e w' ⟨rfl,rfl⟩)
    go_ret;exact⟨Ee HM.out.symm,hb⟩
   |true=>
    cases hD:inB t.d 65535 with
    |false=>
     have HM:Hid (decide t.may=false):=Aa (Ai (by rw[hm,hD];simp));clear hm;go_enter Tryz.func204,Tryz.ntmps204;go_wp2_with (go_at_call 221;refine(Km _ _ _).mono ?_;rintro e w' ⟨rfl,rfl⟩)
     go_ret;exact⟨Ee HM.out.symm,hb⟩
    |true=>
     cases hE:inB t.e 2147483647 with
     |false=>
      have HM:Hid (decide t.may=false):=Aa (Ai (by rw[hm,hE];simp));clear hm;go_enter Tryz.func204,Tryz.ntmps204;go_wp2_with (go_at_call 221;refine(Km _ _ _).mono ?_;rintro e w' ⟨rfl,rfl⟩)
      go_ret;exact⟨Ee HM.out.symm,hb⟩
     |true=>
      cases hF:inB t.f 2147483647 with
      |false=>
       have HM:Hid (decide t.may=false):=Aa (Ai (by rw[hm,hF];simp));clear hm;go_enter Tryz.func204,Tryz.ntmps204;go_wp2_with (go_at_call 221;refine(Km _ _ _).mono ?_;rintro e w' ⟨rfl,rfl⟩)
       go_ret;exact⟨Ee HM.out.symm,hb⟩
      |true=>
       have HM:Hid (decide t.may=true):=Aa (Aj (hm.2 ⟨hA,hB,hC,hD,hE,hF⟩));clear hm;go_enter Tryz.func204,Tryz.ntmps204;go_wp2_with (go_at_call 221;refine(Km _ _ _).mono ?_;rintro e w' ⟨rfl,rfl⟩)
       go_ret;exact⟨Ee HM.out.symm,hb⟩
theorem Jgp(t:Six)(w:World)(h:¬t.may):Calls Tryz.prog 179 #[t.v] w (Md 0 [] w):=by
 have HM:=Aa fun W=>Jey t W;rw[Ai h]at HM;clear h;go_enter Tryz.func179,Tryz.ntmps179;go_wp2_with fail
 refine(HM.out _).mono ?_;rintro e w1 ⟨rfl,hb⟩;have hb1:Below w.heap.size w w1:=((Ag _ w).alloc (Af _) _).trans (hb.mono (by simp));clear hb;go_wp2_with fail
 go_ret;exact⟨none,0,rfl,rfl,Af _,Ak _,Has.none_ _ _,hb1⟩
theorem Jjg(w:World)(T:TypeId)(b1 o1 n1 c1 b2 o2 n2 c2 b3 o3 n3 c3 b4 o4 n4 c4 b5 o5 n5 c5 b6 o6 n6 c6:Nat)(l1 l2 l3 l4 l5 l6:List UInt8)
 (h1:Hid (Mc w b1 o1 n1 c1 l1))(h2:Hid (Mc w b2 o2 n2 c2 l2))(h3:Hid (Mc w b3 o3 n3 c3 l3))(h4:Hid (Mc w b4 o4 n4 c4 l4))(h5:Hid (Mc w b5 o5 n5 c5 l5))(h6:Hid (Mc w b6 o6 n6 c6 l6)):
 Jce (w.alloc (.cells #[.slice (some ⟨b1,o1,none⟩) n1 c1,.slice (some ⟨b2,o2,none⟩) n2 c2,.slice (some ⟨b3,o3,none⟩) n3 c3,.slice (some ⟨b4,o4,none⟩) n4 c4,.slice (some ⟨b5,o5,none⟩) n5 c5,.slice (some ⟨b6,o6,none⟩) n6 c6] T))
  (some ⟨w.heap.size,0,none⟩) [l1,l2,l3,l4,l5,l6]:=fun i l hl=>by
 have hb:Below w.heap.size w (w.alloc (.cells #[.slice (some ⟨b1,o1,none⟩) n1 c1,.slice (some ⟨b2,o2,none⟩) n2 c2,.slice (some ⟨b3,o3,none⟩) n3 c3,.slice (some ⟨b4,o4,none⟩) n4 c4,.slice (some ⟨b5,o5,none⟩) n5 c5,.slice (some ⟨b6,o6,none⟩) n6 c6] T)):=(Ag _ w).alloc (Af _) _;have hcell:∀v,(#[Value.slice (some ⟨b1,o1,none⟩) n1 c1,.slice (some ⟨b2,o2,none⟩) n2 c2,.slice (some ⟨b3,o3,none⟩) n3 c3,.slice (some ⟨b4,o4,none⟩) n4 c4,.slice (some ⟨b5,o5,none⟩) n5 c5,.slice (some ⟨b6,o6,none⟩) n6 c6]:Array Value)[0+i]?=some v→
  (w.alloc (.cells #[.slice (some ⟨b1,o1,none⟩) n1 c1,.slice (some ⟨b2,o2,none⟩) n2 c2,.slice (some ⟨b3,o3,none⟩) n3 c3,.slice (some ⟨b4,o4,none⟩) n4 c4,.slice (some ⟨b5,o5,none⟩) n5 c5,.slice (some ⟨b6,o6,none⟩) n6 c6] T)).cell? ⟨w.heap.size,0+i,none⟩=some v:=fun v hv=>
  (Am _ w.heap.size (0+i) _ T (0,0) (Ah w _)).trans hv
 match i,hl with
 |0,hl=>cases hl;exact⟨_,_,_,_,_,rfl,hcell _ rfl,h1.out.1,h1.out.2.1,h1.out.2.2.1,h1.out.2.2.2.below hb,fun e=>by cases e⟩
 |1,hl=>cases hl;exact⟨_,_,_,_,_,rfl,hcell _ rfl,h2.out.1,h2.out.2.1,h2.out.2.2.1,h2.out.2.2.2.below hb,fun e=>by cases e⟩
 |2,hl=>cases hl;exact⟨_,_,_,_,_,rfl,hcell _ rfl,h3.out.1,h3.out.2.1,h3.out.2.2.1,h3.out.2.2.2.below hb,fun e=>by cases e⟩
 |3,hl=>cases hl;exact⟨_,_,_,_,_,rfl,hcell _ rfl,h4.out.1,h4.out.2.1,h4.out.2.2.1,h4.out.2.2.2.below hb,fun e=>by cases e⟩
 |4,hl=>cases hl;exact⟨_,_,_,_,_,rfl,hcell _ rfl,h5.out.1,h5.out.2.1,h5.out.2.2.1,h5.out.2.2.2.below hb,fun e=>by cases e⟩
 |5,hl=>cases hl;exact⟨_,_,_,_,_,rfl,hcell _ rfl,h6.out.1,h6.out.2.1,h6.out.2.2.1,h6.out.2.2.2.below hb,fun e=>by cases e⟩
def Lz(w:World)(g:Nat)(a b c d e f:Nat):Prop:=w.cell? ⟨g,0,none⟩=some (.int .i64 (a:Int))∧w.cell? ⟨g,1,none⟩=some (.int .i64 (b:Int))∧w.cell? ⟨g,2,none⟩=some (.int .i64 (c:Int))∧
 w.cell? ⟨g,3,none⟩=some (.int .i64 (d:Int))∧w.cell? ⟨g,4,none⟩=some (.int .i64 (e:Int))∧w.cell? ⟨g,5,none⟩=some (.int .i64 (f:Int))
theorem Lz.later{w w':World}{g a b c d e f:Nat}(h:Hid (Lz w g a b c d e f))(hb:Below w.heap.size w w'):Hid (Lz w' g a b c d e f):=
 Aa ⟨Ax hb h.out.1,Ax hb h.out.2.1,Ax hb h.out.2.2.1,Ax hb h.out.2.2.2.1,Ax hb h.out.2.2.2.2.1,Ax hb h.out.2.2.2.2.2⟩
theorem Jem(a b c d e f:Nat)(w:World)(h:(Six.mk a b c d e f).may):Calls Tryz.prog 179 #[Six.v ⟨a,b,c,d,e,f⟩] w (Fe (entB ⟨a,b,c,d,e,f⟩) w):=by
 have HM:=Aa fun W=>Jey ⟨a,b,c,d,e,f⟩ W;rw[Aj h]at HM;obtain⟨f0,f4,f5,x1,x2,x3,x4,x5,x6⟩:=h;simp only[Bv]at f0 f4 f5 x1 x2 x3 x4 x5 x6;obtain⟨y,hy⟩:∃y,y=16*b+c:=⟨_,rfl⟩
 have k1:IntKind.i64.wrap (16*(b:Int))=16*(b:Int):=Al _ (by omega);have k2:IntKind.i64.wrap (16*(b:Int)+(c:Int))=(y:Int):=by rw[Al _ (by omega)];omega
 have kw:∀v:Nat,v < 18446744073709551616→IntKind.u64.wrap (v:Int)=(v:Int):=fun v hv=>by rw[Jm,Fl v hv]
 have ka:=kw a (by omega);have ky:=kw y (by omega);have kd:=kw d (by omega);have ke:=kw e (by omega);have kf:=kw f (by omega);have P1:=Aa fun W=>put4 a W (by omega);have P2:=Aa fun W=>put1 y W (by omega);have P3:=Aa put10;have P4:=Aa fun W=>put2 d W (by omega);have P5:=Aa fun W=>put8 e W (by omega);have P6:=Aa fun W=>put8 f W (by omega);have hent:entB ⟨a,b,c,d,e,f⟩= [leB 4 a,leB 1 y, [0],leB 2 d,leB 8 e,leB 8 f].flatten:=by
  have e1:entB ⟨a,b,c,d,e,f⟩=leB 4 (u64n a)++(leB 1 (u64n (16*(b:Int)+c))++([0]++(leB 2 (u64n d)++(leB 8 (u64n e)++(leB 8 (u64n f)++ []))))):=rfl;have e2:(16*(b:Int)+c)=(y:Int):=by omega
  rw[e1,e2,Fl a (by omega),Fl y (by omega),Fl d (by omega),Fl e (by omega),Fl f (by omega)];rfl
 have HE:=Aa hent;have hlen: [leB 4 a,leB 1 y, [0],leB 2 d,leB 8 e,leB 8 f].flatten.length=24:=by simp[Dp]
 have HL:=Aa hlen;clear kw hent hlen f0 f4 f5 x1 x2 x3 x4 x5 x6 hy;go_enter Tryz.func179,Tryz.ntmps179;go_wp2_with fail
 refine(HM.out _).mono ?_;rintro e' w1 ⟨rfl,hb⟩;have hb1:Below w.heap.size w w1:=((Ag _ w).alloc (Af _) _).trans (hb.mono (by simp));have S0:Hid (Lz w1.drew w.heap.size a b c d e f):=Aa ⟨by rw[show w1.drew.cell?=w1.cell? from rfl,hb.cell (by simp)];simp,by rw[show w1.drew.cell?=w1.cell? from rfl,hb.cell (by simp)];simp,by rw[show w1.drew.cell?=w1.cell? from rfl,hb.cell (by simp)];simp,by rw[show w1.drew.cell?=w1.cell? from rfl,hb.cell (by simp)];simp,by rw[show w1.drew.cell?=w1.cell? from rfl,hb.cell (by simp)];simp,by rw[show w1.drew.cell?=w1.cell? from rfl,hb.cell (by simp)];simp⟩;clear hb;go_wp2_with fail
 go_region_held3 (fun w'=>w'.cell? ⟨w.heap.size,0,none⟩=some (.int .i64 (a:Int))∧w'.cell? ⟨w.heap.size,1,none⟩=some (.int .i64 (b:Int))∧w'.cell? ⟨w.heap.size,2,none⟩=some (.int .i64 (c:Int))∧
  w'.cell? ⟨w.heap.size,3,none⟩=some (.int .i64 (d:Int))∧w'.cell? ⟨w.heap.size,4,none⟩=some (.int .i64 (e:Int))∧w'.cell? ⟨w.heap.size,5,none⟩=some (.int .i64 (f:Int)))
  (first|exact S7.out|exact(Lz.later S6 ((Ag _ w7).alloc (Af _) _)).out|exact S6.out|exact S5.out|exact S4.out|exact S3.out|exact S2.out|exact S1.out|exact S0.out|fail)
  ((first
    |(go_at_call 128
      have HB:=Jjg w7 31 _ _ _ _ _ _ _ _ _ _ _ _ _ _ _ _ _ _ _ _ _ _ _ _ _ _ _ _ _ _ q16 q26 q36 q46 q56 q66;refine(Sw _ 6 6 _ _ HB rfl (by decide) (by rw[HL.out];decide)).mono ?_;rintro e' w8 ⟨v8,rfl,hown8,B8⟩;have S7:=Lz.later (Lz.later S6 ((Ag _ w7).alloc (Af _) _)) B8;have BB8:Below w.heap.size w w8:=(BB6.alloc BB6.size _).trans (B8.mono (by exact(BB6.alloc BB6.size _).size))
      have hown9:=Cm hown8 (c:=w.heap.size) (by exact(BB6.alloc BB6.size _).size))
    |(go_at_call 171
      have _guard:=S5;refine(P6.out _).mono ?_;rintro e' w7 ⟨b6,o6,c6,rfl,q66,B6⟩;have q16:=Db q15 B6;have q26:=Db q25 B6;have q36:=Db q35 B6;have q46:=Db q45 B6;have q56:=Db q55 B6;have S6:=Lz.later S5 B6;have BB6:Below w.heap.size w w7:=BB5.trans (B6.mono (by exact BB5.size))
      clear B6 q15 q25 q35 q45 q55)
    |(go_at_call 171
      have _guard:=S4;refine(P5.out _).mono ?_;rintro e' w6 ⟨b5,o5,c5,rfl,q55,B5⟩;have q15:=Db q14 B5;have q25:=Db q24 B5;have q35:=Db q34 B5;have q45:=Db q44 B5;have S5:=Lz.later S4 B5;have BB5:Below w.heap.size w w6:=BB4.trans (B5.mono (by exact BB4.size))
      clear B5 q14 q24 q34 q44)
    |(go_at_call 171
      have _guard:=S3;refine(P4.out _).mono ?_;rintro e' w5 ⟨b4,o4,c4,rfl,q44,B4⟩;have q14:=Db q13 B4;have q24:=Db q23 B4;have q34:=Db q33 B4;have S4:=Lz.later S3 B4;have BB4:Below w.heap.size w w5:=BB3.trans (B4.mono (by exact BB3.size))
      clear B4 q13 q23 q33)
    |(go_at_call 171
      have _guard:=S2;refine(P3.out _).mono ?_;rintro e' w4 ⟨b3,o3,c3,rfl,q33,B3⟩;have q13:=Db q12 B3;have q23:=Db q22 B3;have S3:=Lz.later S2 B3;have BB3:Below w.heap.size w w4:=BB2.trans (B3.mono (by exact BB2.size))
      clear B3 q12 q22)
    |(go_at_call 171
      have _guard:=S1;refine(P2.out _).mono ?_;rintro e' w3 ⟨b2,o2,c2,rfl,q22,B2⟩;have q12:=Db q11 B2;have S2:=Lz.later S1 B2;have BB2:Below w.heap.size w w3:=BB1.trans (B2.mono (by exact BB1.size))
      clear B2 q11)
    |(go_at_call 171
      refine(P1.out _).mono ?_;rintro e' w2 ⟨b1,o1,c1,rfl,q11,B1⟩;have S1:=Lz.later S0 B1;have BB1:Below w.heap.size w w2:=hb1.drew.trans (B1.mono (by exact hb1.size))
      clear B1)
    |fail))
 go_wp2_with fail
 go_ret;exact⟨_,rfl,by rw[HE.out];exact hown9,BB8⟩
def Jac(t:Six):List UInt8:=if Bu t.a&&Bu t.e&&Bu t.f&&decide (0≤t.b)&&decide (t.b≤2)&&decide (0≤t.c)&&decide (t.c≤3)&&decide (0≤t.d)&&decide (t.d≤65535)then entB t else []
theorem Jej(t:Six):(Bu t.a&&Bu t.e&&Bu t.f&&decide (0≤t.b)&&decide (t.b≤2)&&decide (0≤t.c)&&decide (t.c≤3)&&decide (0≤t.d)&&decide (t.d≤65535))=true ↔ t.may:=by
 simp[Six.may,and_assoc]
theorem Jm3{t:Six}(h:t.may):Jac t=entB t:=by unfold Jac;rw[if_pos ((Jej t).2 h)]
theorem Jo9{t:Six}(h:¬t.may):Jac t= []:=by unfold Jac;rw[if_neg fun hc=>h ((Jej t).1 hc)]
theorem yput_any(t:Six)(w:World):Calls Tryz.prog 179 #[t.v] w (Md (Jac t).length (Jac t) w):=by
 by_cases h:t.may
 ·rw[Jm3 h];obtain⟨a,b,c,d,e,f⟩:=t;have h':=h;obtain⟨f0,f4,f5,x1,x2,x3,x4,x5,x6⟩:=h';simp only[Bv]at f0 f4 f5 x1 x2 x3 x4 x5 x6;obtain⟨a,rfl⟩:=Au f0.1;obtain⟨b,rfl⟩:=Au x1;obtain⟨c,rfl⟩:=Au x3;obtain⟨d,rfl⟩:=Au x5;obtain⟨e,rfl⟩:=Au f4.1;obtain⟨f,rfl⟩:=Au f5.1;exact(Jem a b c d e f w h).mono fun _ _ h=>h.toH
 ·rw[Jo9 h];exact Jgp t w h
theorem Jps:Jsh:=fun t w=>by
 refine⟨fun hm=>?_,fun hm=>?_⟩
 ·obtain⟨a,b,c,d,e,f⟩:=t;have h':=hm;obtain⟨f0,f4,f5,x1,x2,x3,x4,x5,x6⟩:=h';simp only[Bv]at f0 f4 f5 x1 x2 x3 x4 x5 x6;obtain⟨a,rfl⟩:=Au f0.1;obtain⟨b,rfl⟩:=Au x1;obtain⟨c,rfl⟩:=Au x3;obtain⟨d,rfl⟩:=Au x5;obtain⟨e,rfl⟩:=Au f4.1;obtain⟨f,rfl⟩:=Au f5.1;exact Jem a b c d e f w hm
 ·exact Jgp t w hm
end Go.Proofs.YteopgmieindojaaGreat
