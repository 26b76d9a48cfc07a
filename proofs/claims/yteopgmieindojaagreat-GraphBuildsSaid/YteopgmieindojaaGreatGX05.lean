/- Parts of a proof. -/
import Derived.Test.YteopgmieindojaaGreatGX04
import Derived.Deep.QuietTactic
import Derived.BigQuiet
import Derived.Deep.DeepCutAuto
set_option maxRecDepth 1000000
set_option maxHeartbeats 8000000
namespace Go.Proofs.YteopgmieindojaaGreat
open Go.RowKit
def Qm(l:List UInt8)(at_ n:Nat):Int:=if num (win l at_ n)≤2147483647 then(num (win l at_ n):Int)else -1
structure Ten where
 (a b c d e f g h i j:Int)
def Ten.l(t:Ten):List Int:= [t.a,t.b,t.c,t.d,t.e,t.f,t.g,t.h,t.i,t.j]
abbrev Ten.v (t:Ten):Value:= .agg #[.int .i64 t.a,.int .i64 t.b,.int .i64 t.c,.int .i64 t.d,.int .i64 t.e,.int .i64 t.f,.int .i64 t.g,.int .i64 t.h,.int .i64 t.i,.int .i64 t.j]
def Ten.nums(t:Ten):List Int:= [t.a,4,t.b,4,t.c,8,t.d,8,t.e,8,t.f,8,t.g,4,t.h,4,t.i,8,t.j,8]
def sectB(t:Ten):List UInt8:=Fq t.nums
def Ten.may(t:Ten):Prop:=∀x∈t.l,Bu x=true
instance (t:Ten):Decidable t.may:=by unfold Ten.may;infer_instance
theorem Jqx(t:Ten)(w:World)(h:t.may):Calls Tryz.prog 84 #[t.v] w fun e w'=>e= .returned (.bool true)∧Below w.heap.size w w':=by
 have HT:=Aa h;clear h;go_enter Tryz.func84,Tryz.ntmps84;go_wp2_with fail
 have HL:=Aa (Ql (w.alloc (.cells #[.int .i64 t.a,.int .i64 t.b,.int .i64 t.c,.int .i64 t.d,.int .i64 t.e,.int .i64 t.f,.int .i64 t.g,.int .i64 t.h,.int .i64 t.i,.int .i64 t.j] 104)) 3 t.l #[.int .i64 t.a,.int .i64 t.b,.int .i64 t.c,.int .i64 t.d,.int .i64 t.e,.int .i64 t.f,.int .i64 t.g,.int .i64 t.h,.int .i64 t.i,.int .i64 t.j] rfl (w.heap.size+1) (by simp));have hb:Below w.heap.size w ((w.alloc (.cells #[.int .i64 t.a,.int .i64 t.b,.int .i64 t.c,.int .i64 t.d,.int .i64 t.e,.int .i64 t.f,.int .i64 t.g,.int .i64 t.h,.int .i64 t.i,.int .i64 t.j] 104)).alloc (.cells #[.int .i64 t.a,.int .i64 t.b,.int .i64 t.c,.int .i64 t.d,.int .i64 t.e,.int .i64 t.f,.int .i64 t.g,.int .i64 t.h,.int .i64 t.i,.int .i64 t.j] 3)):=((Ag _ w).alloc (Af _) _).alloc (by simp) _;generalize (w.alloc (.cells #[.int .i64 t.a,.int .i64 t.b,.int .i64 t.c,.int .i64 t.d,.int .i64 t.e,.int .i64 t.f,.int .i64 t.g,.int .i64 t.h,.int .i64 t.i,.int .i64 t.j] 104)).alloc (.cells #[.int .i64 t.a,.int .i64 t.b,.int .i64 t.c,.int .i64 t.d,.int .i64 t.e,.int .i64 t.f,.int .i64 t.g,.int .i64 t.h,.int .i64 t.i,.int .i64 t.j] 3)=W2 at*;have hlen:t.l.length=10:=rfl;have HN:=Aa hlen;clear hlen;go_loop [4] (fun i=>∃k:Nat,k≤10∧i= .int .i64 (k:Int)) (fun i=>10 - (intOf i).toNat)
 case atStart=>exact⟨0,Ak _,rfl⟩
 case round=>
  obtain⟨k,hk,rfl⟩:=hrel;by_cases hlt:k < 10
  ·obtain⟨b,off,x,hp,hx,hc⟩:=HL.out.at_ (i:=k) (by rw[HN.out];exact hlt);simp only[Option.some.injEq,Addr.mk.injEq,and_true]at hp;obtain⟨rfl,rfl⟩:=hp;rw[Nat.zero_add]at hc;have HV:Hid (∀W,Calls Tryz.prog 86 #[.int .i64 x] W fun e w'=>e= .returned (.bool true)∧W=w'):=Aa fun W=>(HT.out x (Ad hx))▸Kh x W;have hI1:(k:Int) < 10:=by omega
   have hI0:(0:Int)≤(k:Int):=by omega
   clear hx;go_wp2_with fail
   refine(HV.out _).mono ?_;rintro e w' ⟨rfl,rfl⟩;go_wp2_with fail
   go_round
   case rel=>exact⟨k+1,hlt,by go_num⟩
   case measure=>simp[intOf];omega
  ·have hI1:¬(k:Int) < 10:=by omega
   go_wp2_with fail
   go_ret;exact⟨rfl,hb⟩
structure Six where
 (a b c d e f:Int)
abbrev Six.v (t:Six):Value:= .agg #[.int .i64 t.a,.int .i64 t.b,.int .i64 t.c,.int .i64 t.d,.int .i64 t.e,.int .i64 t.f]
def Six.nums(t:Six):List Int:= [t.a,4,16*t.b+t.c,1,0,1,t.d,2,t.e,8,t.f,8]
def entB(t:Six):List UInt8:=Fq t.nums
def Six.may(t:Six):Prop:=Bu t.a=true∧Bu t.e=true∧Bu t.f=true∧0≤t.b∧t.b≤2∧0≤t.c∧t.c≤3∧0≤t.d∧t.d≤65535
instance (t:Six):Decidable t.may:=by unfold Six.may;infer_instance
theorem Rp(t:Six):(entB t).length=24:=rfl
theorem Rb{x:Int}(h:Bu x=true)(W:World):Calls Tryz.prog 86 #[.int .i64 x] W fun e w'=>e= .returned (.bool true)∧W=w':=h▸Kh x W
theorem Yr{x:Int}(h:¬Bu x=true)(W:World):Calls Tryz.prog 86 #[.int .i64 x] W fun e w'=>e= .returned (.bool false)∧W=w':=by
 have h2:Bu x=false:=by simpa using h
 exact h2▸Kh x W
theorem Jrh(x:Int)(W:World):Calls Tryz.prog 86 #[.int .i64 x] W fun e w'=>e= .returned (.bool (Bu x))∧W=w':=Kh x W
theorem Jmk(t:Six)(w:World)(A B C:Bool)(hA:Bu t.a=A)(hB:Bu t.e=B)(hC:Bu t.f=C)(r:Bool)(hr:(A&&B&&C&&decide (0≤t.b)&&decide (t.b≤2)&&decide (0≤t.c)&&decide (t.c≤3)&&decide (0≤t.d)&&decide (t.d≤65535))=r):
 Calls Tryz.prog 137 #[t.v] w fun e w'=>e= .returned (.bool r)∧Below w.heap.size w w':=by
 have HA:Hid (∀W,Calls Tryz.prog 86 #[.int .i64 t.a] W fun e w'=>e= .returned (.bool A)∧W=w'):=Aa (hA▸Kh t.a);have HB:Hid (∀W,Calls Tryz.prog 86 #[.int .i64 t.e] W fun e w'=>e= .returned (.bool B)∧W=w'):=Aa (hB▸Kh t.e);have HC:Hid (∀W,Calls Tryz.prog 86 #[.int .i64 t.f] W fun e w'=>e= .returned (.bool C)∧W=w'):=Aa (hC▸Kh t.f);have HR:=Aa hr;have hb0:Below w.heap.size w (w.alloc (.cells #[.int .i64 t.a,.int .i64 t.b,.int .i64 t.c,.int .i64 t.d,.int .i64 t.e,.int .i64 t.f] 173)):=(Ag _ w).alloc (Af _) _;clear hA hB hC hr;cases A with
 |false=>
  go_enter Tryz.func137,Tryz.ntmps137;go_wp2_with fail
  refine(HA.out _).mono ?_;rintro e w' ⟨rfl,rfl⟩;go_wp2_with fail
  refine(HB.out _).mono ?_;rintro e w' ⟨rfl,rfl⟩;go_wp2_with fail
  refine(HC.out _).mono ?_;rintro e w' ⟨rfl,rfl⟩;go_wp2_with fail
  go_ret;exact⟨Ee (by rw[←HR.out];rfl),hb0⟩
 |true=>
 cases B with
 |false=>
  go_enter Tryz.func137,Tryz.ntmps137;go_wp2_with fail
  refine(HA.out _).mono ?_;rintro e w' ⟨rfl,rfl⟩;go_wp2_with fail
  refine(HB.out _).mono ?_;rintro e w' ⟨rfl,rfl⟩;go_wp2_with fail
  refine(HC.out _).mono ?_;rintro e w' ⟨rfl,rfl⟩;go_wp2_with fail
  go_ret;exact⟨Ee (by rw[←HR.out];rfl),hb0⟩
 |true=>
 cases C with
 |false=>
  go_enter Tryz.func137,Tryz.ntmps137;go_wp2_with fail
  refine(HA.out _).mono ?_;rintro e w' ⟨rfl,rfl⟩;go_wp2_with fail
  refine(HB.out _).mono ?_;rintro e w' ⟨rfl,rfl⟩;go_wp2_with fail
  refine(HC.out _).mono ?_;rintro e w' ⟨rfl,rfl⟩;go_wp2_with fail
  go_ret;exact⟨Ee (by rw[←HR.out];rfl),hb0⟩
 |true=>
 by_cases q0:0≤t.b
 case neg=>
  have HR0:Hid (r=false):=Aa (by rw[←HR.out,Ai q0];simp);go_enter Tryz.func137,Tryz.ntmps137;go_wp2_with fail
  refine(HA.out _).mono ?_;rintro e w' ⟨rfl,rfl⟩;go_wp2_with fail
  refine(HB.out _).mono ?_;rintro e w' ⟨rfl,rfl⟩;go_wp2_with fail
  refine(HC.out _).mono ?_;rintro e w' ⟨rfl,rfl⟩;go_wp2_with fail
  go_ret;exact⟨Ee (by first|exact HR0.out.symm|(rw[HR0.out];simp;omega)),hb0⟩
 case pos=>
  by_cases q1:t.b≤2
  case neg=>
   have HR0:Hid (r=false):=Aa (by rw[←HR.out,Ai q1];simp);go_enter Tryz.func137,Tryz.ntmps137;go_wp2_with fail
   refine(HA.out _).mono ?_;rintro e w' ⟨rfl,rfl⟩;go_wp2_with fail
   refine(HB.out _).mono ?_;rintro e w' ⟨rfl,rfl⟩;go_wp2_with fail
   refine(HC.out _).mono ?_;rintro e w' ⟨rfl,rfl⟩;go_wp2_with fail
   go_ret;exact⟨Ee (by first|exact HR0.out.symm|(rw[HR0.out];simp;omega)),hb0⟩
  case pos=>
   by_cases q2:0≤t.c
   case neg=>
    have HR0:Hid (r=false):=Aa (by rw[←HR.out,Ai q2];simp);go_enter Tryz.func137,Tryz.ntmps137;go_wp2_with fail
    refine(HA.out _).mono ?_;rintro e w' ⟨rfl,rfl⟩;go_wp2_with fail
    refine(HB.out _).mono ?_;rintro e w' ⟨rfl,rfl⟩;go_wp2_with fail
    refine(HC.out _).mono ?_;rintro e w' ⟨rfl,rfl⟩;go_wp2_with fail
    go_ret;exact⟨Ee (by first|exact HR0.out.symm|(rw[HR0.out];simp;omega)),hb0⟩
   case pos=>
    by_cases q3:t.c≤3
    case neg=>
     have HR0:Hid (r=false):=Aa (by rw[←HR.out,Ai q3];simp);go_enter Tryz.func137,Tryz.ntmps137;go_wp2_with fail
     refine(HA.out _).mono ?_;rintro e w' ⟨rfl,rfl⟩;go_wp2_with fail
     refine(HB.out _).mono ?_;rintro e w' ⟨rfl,rfl⟩;go_wp2_with fail
     refine(HC.out _).mono ?_;rintro e w' ⟨rfl,rfl⟩;go_wp2_with fail
     go_ret;exact⟨Ee (by first|exact HR0.out.symm|(rw[HR0.out];simp;omega)),hb0⟩
    case pos=>
     by_cases q4:0≤t.d
     case neg=>
      have HR0:Hid (r=false):=Aa (by rw[←HR.out,Ai q4];simp);go_enter Tryz.func137,Tryz.ntmps137;go_wp2_with fail
      refine(HA.out _).mono ?_;rintro e w' ⟨rfl,rfl⟩;go_wp2_with fail
      refine(HB.out _).mono ?_;rintro e w' ⟨rfl,rfl⟩;go_wp2_with fail
      refine(HC.out _).mono ?_;rintro e w' ⟨rfl,rfl⟩;go_wp2_with fail
      go_ret;exact⟨Ee (by first|exact HR0.out.symm|(rw[HR0.out];simp;omega)),hb0⟩
     case pos=>
      by_cases q5:t.d≤65535
      case neg=>
       have HR0:Hid (r=false):=Aa (by rw[←HR.out,Ai q5];simp);go_enter Tryz.func137,Tryz.ntmps137;go_wp2_with fail
       refine(HA.out _).mono ?_;rintro e w' ⟨rfl,rfl⟩;go_wp2_with fail
       refine(HB.out _).mono ?_;rintro e w' ⟨rfl,rfl⟩;go_wp2_with fail
       refine(HC.out _).mono ?_;rintro e w' ⟨rfl,rfl⟩;go_wp2_with fail
       go_ret;exact⟨Ee (by first|exact HR0.out.symm|(rw[HR0.out];simp;omega)),hb0⟩
      case pos=>
       have HR0:Hid (r=true):=Aa (by rw[←HR.out,Aj q0,Aj q1,Aj q2,Aj q3,Aj q4,Aj q5];rfl);go_enter Tryz.func137,Tryz.ntmps137;go_wp2_with fail
       refine(HA.out _).mono ?_;rintro e w' ⟨rfl,rfl⟩;go_wp2_with fail
       refine(HB.out _).mono ?_;rintro e w' ⟨rfl,rfl⟩;go_wp2_with fail
       refine(HC.out _).mono ?_;rintro e w' ⟨rfl,rfl⟩;go_wp2_with fail
       go_ret;exact⟨Ee (by first|exact HR0.out.symm|(rw[HR0.out];simp;omega)),hb0⟩
theorem Joi(t:Six)(w:World)(h:t.may):Calls Tryz.prog 137 #[t.v] w fun e w'=>e= .returned (.bool true)∧Below w.heap.size w w':=by
 obtain⟨h1,h2,h3,h4,h5,h6,h7,h8,h9⟩:=h;exact Jmk t w true true true h1 h2 h3 true (by simp[h4,h5,h6,h7,h8,h9])
theorem Jo1(t:Six):∀(i:Nat)(x:Int),t.nums[2*i+1]?=some x→wid x=true:=fun i x hx=>by
 have hi:i < 6:=by have:=(Ab.1 hx).1;simp[Six.nums]at this;omega
 match i,hi,hx with
 |0,_,hx|1,_,hx|2,_,hx|3,_,hx|4,_,hx|5,_,hx=>simp[Six.nums]at hx;subst hx;rfl
theorem Jr1{t:Six}(h:t.may):∀(i:Nat)(x:Int),t.nums[i]?=some x→ -9223372036854775808≤x∧x≤9223372036854775807:=fun i x hx=>by
 have hm:=Ad hx;simp only[Six.nums,List.mem_cons,List.not_mem_nil,or_false]at hm;obtain⟨h1,h2,h3,h4,h5,h6,h7,h8,h9⟩:=h;have g1:=(Bv _).1 h1;have g2:=(Bv _).1 h2;have g3:=(Bv _).1 h3;omega
theorem Zu(t:Six)(w:World)(h:t.may):Calls Tryz.prog 83 #[t.v] w (Fe (entB t) w):=by
 have HM:=Aa fun W=>Joi t W h;have HN:=Aa fun(W:World)(p:Option Addr)(hp:Uu W p t.nums)=>Sq p 12 12 6 t.nums W hp rfl rfl (by omega) (Jo1 t) (Jr1 h);obtain⟨_,_,_,h4,h5,h6,h7,h8,h9⟩:=h;go_enter Tryz.func83,Tryz.ntmps83;go_wp2_with fail
 refine(HM.out _).mono ?_;rintro e w2 ⟨rfl,hbb⟩;have c0:w2.cell? ⟨w.heap.size,0,none⟩=some (.int .i64 t.a):=by rw[hbb.cell (by simp)];simp
 have c1:w2.cell? ⟨w.heap.size,1,none⟩=some (.int .i64 t.b):=by rw[hbb.cell (by simp)];simp
 have c2:w2.cell? ⟨w.heap.size,2,none⟩=some (.int .i64 t.c):=by rw[hbb.cell (by simp)];simp
 have c3:w2.cell? ⟨w.heap.size,3,none⟩=some (.int .i64 t.d):=by rw[hbb.cell (by simp)];simp
 have c4:w2.cell? ⟨w.heap.size,4,none⟩=some (.int .i64 t.e):=by rw[hbb.cell (by simp)];simp
 have c5:w2.cell? ⟨w.heap.size,5,none⟩=some (.int .i64 t.f):=by rw[hbb.cell (by simp)];simp
 have hb:Below w.heap.size w w2:=((Ag _ w).alloc (Af _) _).trans (hbb.mono (by simp));clear hbb;go_wp2_with fail
 refine(HN.out _ _ (Ql w2 3 t.nums #[.int .i64 t.a,.int .i64 4,.int .i64 (16*t.b+t.c),.int .i64 1,.int .i64 0,.int .i64 1,.int .i64 t.d,.int .i64 2,.int .i64 t.e,.int .i64 8,.int .i64 t.f,.int .i64 8] rfl _ rfl)).mono ?_;rintro e w3 ⟨v,rfl,ho,hbb3⟩;have hb3:Below w.heap.size w w3:=(hb.alloc hb.size _).trans (hbb3.mono (by have:=hb.size;simp;omega));have ho3:=Cm (c:=w.heap.size) ho (by have:=hb.size;simp;omega);clear hbb3 ho;go_wp2_with fail
 go_ret;exact⟨_,rfl,ho3,hb3⟩
def widthI(n:Int):Int:=if n=1 then 8 else if n=2∨n=4∨n=10∨n=11 then 4 else 0
theorem Rf(n:Int)(w:World):Calls Tryz.prog 169 #[.int .i64 n] w fun e w'=>e= .returned (.int .i64 (widthI n))∧w=w':=by
 by_cases h1:n=1
 ·subst h1;go_enter Tryz.func169,Tryz.ntmps169;go_wp2;go_ret;exact⟨rfl,rfl⟩
 by_cases h2:n=2
 ·subst h2;go_enter Tryz.func169,Tryz.ntmps169;go_wp2;go_ret;exact⟨rfl,rfl⟩
 by_cases h4:n=4
 ·subst h4;go_enter Tryz.func169,Tryz.ntmps169;go_wp2;go_ret;exact⟨rfl,rfl⟩
 by_cases h10:n=10
 ·subst h10;go_enter Tryz.func169,Tryz.ntmps169;go_wp2;go_ret;exact⟨rfl,rfl⟩
 by_cases h11:n=11
 ·subst h11;go_enter Tryz.func169,Tryz.ntmps169;go_wp2;go_ret;exact⟨rfl,rfl⟩
 have HW:Hid (widthI n=0):=Aa (by simp[widthI,h1,h2,h4,h10,h11]);have e1:(n==1)=false:=by simpa using h1
 have e2:(n==2)=false:=by simpa using h2
 have e4:(n==4)=false:=by simpa using h4
 have e10:(n==10)=false:=by simpa using h10
 have e11:(n==11)=false:=by simpa using h11
 clear h1 h2 h4 h10 h11;go_enter Tryz.func169,Tryz.ntmps169;go_wp2;go_ret;rw[HW.out];exact⟨rfl,rfl⟩
structure Fou where
 (a b c d:Int)
abbrev Fou.v (t:Fou):Value:= .agg #[.int .i64 t.a,.int .i64 t.b,.int .i64 t.c,.int .i64 t.d]
def Fou.nums(t:Fou):List Int:= [t.a,8,t.b,4,t.c,4,t.d,8]
def Nr(t:Fou):List UInt8:=Fq t.nums
def Fou.may(t:Fou):Prop:=Bu t.a=true∧Bu t.c=true∧0 < widthI t.b
instance (t:Fou):Decidable t.may:=by unfold Fou.may;infer_instance
theorem Jfp(t:Fou):(Nr t).length=24:=rfl
theorem St{n:Int}(h:0 < widthI n):n=1∨n=2∨n=4∨n=10∨n=11:=by
 unfold widthI at h;split at h
 ·omega
 ·split at h
  ·omega
  ·omega
theorem Jeu(t:Fou)(w:World)(h:t.may):Calls Tryz.prog 135 #[t.v] w fun e w'=>e= .returned (.bool true)∧Below w.heap.size w w':=by
 obtain⟨h1,h2,h3⟩:=h;have HA:=Aa (Rb h1);have HB:=Aa (Rb h2);have HW:=Aa (Rf t.b);have hb0:Below w.heap.size w (w.alloc (.cells #[.int .i64 t.a,.int .i64 t.b,.int .i64 t.c,.int .i64 t.d] 94)):=(Ag _ w).alloc (Af _) _;clear h1 h2;generalize widthI t.b=q at*;go_enter Tryz.func135,Tryz.ntmps135;go_wp2_with fail
 refine(HA.out _).mono ?_;rintro e w' ⟨rfl,rfl⟩;go_wp2_with fail
 refine(HB.out _).mono ?_;rintro e w' ⟨rfl,rfl⟩;go_wp2_with fail
 refine(HW.out _).mono ?_;rintro e w' ⟨rfl,rfl⟩;go_wp2_with fail
 go_ret;exact⟨by simp,hb0⟩
theorem Jq4(t:Fou)(w:World)(h:¬t.may):Calls Tryz.prog 135 #[t.v] w fun e w'=>e= .returned (.bool false)∧Below w.heap.size w w':=by
 have HB0:=Aa (Jrh t.c);have HW:=Aa (Rf t.b);have hb0:Below w.heap.size w (w.alloc (.cells #[.int .i64 t.a,.int .i64 t.b,.int .i64 t.c,.int .i64 t.d] 94)):=(Ag _ w).alloc (Af _) _;by_cases h1:Bu t.a=true
 ·have HA:=Aa (Rb h1);by_cases h2:Bu t.c=true
  ·have HB:=Aa (Rb h2);have h3:¬0 < widthI t.b:=fun h3=>h ⟨h1,h2,h3⟩;clear h1 h2 h HB0;generalize widthI t.b=q at*;go_enter Tryz.func135,Tryz.ntmps135;go_wp2_with fail
   refine(HA.out _).mono ?_;rintro e w' ⟨rfl,rfl⟩;go_wp2_with fail
   refine(HB.out _).mono ?_;rintro e w' ⟨rfl,rfl⟩;go_wp2_with fail
   refine(HW.out _).mono ?_;rintro e w' ⟨rfl,rfl⟩;go_wp2_with fail
   go_ret;exact⟨by simp;omega,hb0⟩
  ·have HB:=Aa (Yr h2);clear h1 h2 h HB0;go_enter Tryz.func135,Tryz.ntmps135;go_wp2_with fail
   refine(HA.out _).mono ?_;rintro e w' ⟨rfl,rfl⟩;go_wp2_with fail
   refine(HB.out _).mono ?_;rintro e w' ⟨rfl,rfl⟩;go_wp2_with fail
   go_ret;exact⟨rfl,hb0⟩
 ·have HA:=Aa (Yr h1);clear h1 h;go_enter Tryz.func135,Tryz.ntmps135;go_wp2_with fail
  refine(HA.out _).mono ?_;rintro e w' ⟨rfl,rfl⟩;go_wp2_with fail
  refine(HB0.out _).mono ?_;rintro e w' ⟨rfl,rfl⟩;go_wp2_with fail
  go_ret;exact⟨rfl,hb0⟩
theorem Jqz(t:Fou):∀(i:Nat)(x:Int),t.nums[2*i+1]?=some x→wid x=true:=fun i x hx=>by
 have hi:i < 4:=by have:=(Ab.1 hx).1;simp[Fou.nums]at this;omega
 match i,hi,hx with
 |0,_,hx|1,_,hx|2,_,hx|3,_,hx=>simp[Fou.nums]at hx;subst hx;rfl
theorem Jsr{t:Fou}(h:t.may)(hd: -9223372036854775808≤t.d∧t.d≤9223372036854775807):∀(i:Nat)(x:Int),t.nums[i]?=some x→ -9223372036854775808≤x∧x≤9223372036854775807:=fun i x hx=>by
 have hm:=Ad hx;simp only[Fou.nums,List.mem_cons,List.not_mem_nil,or_false]at hm;obtain⟨h1,h2,h3⟩:=h;have g1:=(Bv _).1 h1;have g2:=(Bv _).1 h2;have g3:=St h3;omega
theorem Jee(t:Fou)(w:World)(h:t.may)(hd: -9223372036854775808≤t.d∧t.d≤9223372036854775807):Calls Tryz.prog 80 #[t.v] w (Fe (Nr t) w):=by
 have HM:=Aa fun W=>Jeu t W h;have HN:=Aa fun(W:World)(p:Option Addr)(hp:Uu W p t.nums)=>Sq p 8 8 4 t.nums W hp rfl rfl (by omega) (Jqz t) (Jsr h hd);clear h;go_enter Tryz.func80,Tryz.ntmps80;go_wp2_with fail
 refine(HM.out _).mono ?_;rintro e w2 ⟨rfl,hbb⟩;have c0:w2.cell? ⟨w.heap.size,0,none⟩=some (.int .i64 t.a):=by rw[hbb.cell (by simp)];simp
 have c1:w2.cell? ⟨w.heap.size,1,none⟩=some (.int .i64 t.b):=by rw[hbb.cell (by simp)];simp
 have c2:w2.cell? ⟨w.heap.size,2,none⟩=some (.int .i64 t.c):=by rw[hbb.cell (by simp)];simp
 have c3:w2.cell? ⟨w.heap.size,3,none⟩=some (.int .i64 t.d):=by rw[hbb.cell (by simp)];simp
 have hb:Below w.heap.size w w2:=((Ag _ w).alloc (Af _) _).trans (hbb.mono (by simp));clear hbb;go_wp2_with fail
 refine(HN.out _ _ (Ql w2 3 t.nums #[.int .i64 t.a,.int .i64 8,.int .i64 t.b,.int .i64 4,.int .i64 t.c,.int .i64 4,.int .i64 t.d,.int .i64 8] rfl _ rfl)).mono ?_;rintro e w3 ⟨v,rfl,ho,hbb3⟩;have hb3:Below w.heap.size w w3:=(hb.alloc hb.size _).trans (hbb3.mono (by have:=hb.size;simp;omega));have ho3:=Cm (c:=w.heap.size) ho (by have:=hb.size;simp;omega);clear hbb3 ho;go_wp2_with fail
 go_ret;exact⟨_,rfl,ho3,hb3⟩
abbrev Ea.fou (r:Ea):Fou:=⟨r.off,r.type,r.sym,r.add⟩
def Jc(syms dl:Nat)(r:Ea):Bool:=decide r.fou.may&&(decide (r.sym < (syms:Int))&&decide (r.off+widthI r.type≤(dl:Int)))
def Qu(p r:Ea):Bool:=decide (p.off+widthI p.type≤r.off)
def Pv(rs:List Ea):Nat→Ea→Bool
 |0,_=>true
 |j+1,r=>match rs[j]? with
  |none=>true
  |some p=>Qu p r
def Je(syms dl:Nat)(rs:List Ea)(i:Nat):Bool:=match rs[i]? with
 |none=>true
 |some r=>Jc syms dl r&&Pv rs i r
def relsB(syms dl:Nat)(rs:List Ea):Bool:=decide (rs.length≤64)&&(List.range rs.length).all (Je syms dl rs)
theorem Jl4{syms dl:Nat}{rs:List Ea}{i:Nat}(hi:i < rs.length)(h:Je syms dl rs i=false):relsB syms dl rs=false:=by
 unfold relsB;have:(List.range rs.length).all (Je syms dl rs)=false:=by
  rw[List.all_eq_false];exact⟨i,List.mem_range.2 hi,by simp[h]⟩
 rw[this];simp
theorem Ov{syms dl:Nat}{rs:List Ea}{i:Nat}{r:Ea}(h:rs[i]?=some r):Je syms dl rs i=(Jc syms dl r&&Pv rs i r):=by
 unfold Je;rw[h]
theorem Mu(w:World)(cs1 cs2:Array Value)(t1 t2:TypeId):(∀i,((w.alloc (.cells cs1 t1)).alloc (.cells cs2 t2)).cell? ⟨w.heap.size,i,none⟩=cs1[i]?)∧(∀i,((w.alloc (.cells cs1 t1)).alloc (.cells cs2 t2)).cell? ⟨w.heap.size+1,i,none⟩=cs2[i]?):=by
 have hs:(w.alloc (.cells cs1 t1)).heap.size=w.heap.size+1:=by simp
 constructor
 ·intro i;have hn:((w.alloc (.cells cs1 t1)).alloc (.cells cs2 t2)).heap[w.heap.size]?=some (.cells cs1 t1 (0,0)):=by
   rw[Below.heap_alloc _ _ _ (by rw[hs];omega)];exact Ah w _
  exact Am _ w.heap.size i cs1 t1 (0,0) hn
 ·intro i;have hn:=Ah (w.alloc (.cells cs1 t1)) (.cells cs2 t2);rw[hs]at hn;exact Am _ (w.heap.size+1) i cs2 t2 (0,0) hn
theorem Rg(n:Int):0≤widthI n∧widthI n≤8:=by
 unfold widthI;split
 ·omega
 ·split<;>omega
theorem Jnv(v0 v2 v4:Value)(sig:Bool)(ps:Option Addr)(sl sc:Nat)(nm:ByteArray)(ty fl al en li sz:Int)(dp rp:Option Addr)(dl dc rc:Nat)(rs:List Ea)(w:World)(hr:Bg 4 Hk w rp rs)(hrm:rs.length≤maxLen)(_hsm:sl≤maxLen)(_hdm:dl≤maxLen):
 Calls Tryz.prog 122 #[Gq v0 (.slice ps sl sc) v2 sig v4,Pe nm ty fl al en li sz (.slice dp dl dc) (.slice rp rs.length rc)] w fun e w'=>e= .returned (.bool (relsB sl dl rs))∧Below w.heap.size w w':=by
 unfold maxLen at hrm;have hct:=Mu w #[v0,.slice ps sl sc,v2,.bool sig,v4] #[.string nm,.int .i64 ty,.int .i64 fl,.int .i64 al,.int .i64 en,.int .i64 li,.int .i64 sz,.slice dp dl dc,.slice rp rs.length rc] 27 89;have d1:=hct.1 1;have d7:=hct.2 7;have d8:=hct.2 8;have hb0:Below w.heap.size w ((w.alloc (.cells #[v0,.slice ps sl sc,v2,.bool sig,v4] 27)).alloc (.cells #[.string nm,.int .i64 ty,.int .i64 fl,.int .i64 al,.int .i64 en,.int .i64 li,.int .i64 sz,.slice dp dl dc,.slice rp rs.length rc] 89)):=((Ag _ w).alloc (Af _) _).alloc (by simp) _;simp only[List.getElem?_toArray,List.getElem?_cons_succ,List.getElem?_cons_zero]at d1 d7 d8;have hr1:=hr.below Hk.keeps hb0;have hno:64 < rs.length→relsB sl dl rs=false:=fun h=>by unfold relsB;rw[Ai (by omega)];rfl
 have hyes:¬64 < rs.length→(List.range rs.length).all (Je sl dl rs)=true→relsB sl dl rs=true:=fun h h2=>by unfold relsB;rw[h2,Aj (by omega)];rfl
 have hat:∀i,i < rs.length→Je sl dl rs i=false→relsB sl dl rs=false:=fun i hi h=>Jl4 hi h;clear hr hct;generalize hm:rs.length=m at*;generalize hW0:(w.alloc (.cells #[v0,.slice ps sl sc,v2,.bool sig,v4] 27)).alloc (.cells #[.string nm,.int .i64 ty,.int .i64 fl,.int .i64 al,.int .i64 en,.int .i64 li,.int .i64 sz,.slice dp dl dc,.slice rp m rc] 89)=W0 at*;have HM:=Aa hm;have HRL:=Aa hr1;have HMY:=Aa fun(r:Ea) W (h:r.fou.may)=>Jeu r.fou W h;have HMN:=Aa fun(r:Ea) W (h:¬r.fou.may)=>Jq4 r.fou W h;have HNO:=Aa hno;have HYES:=Aa hyes;have HAT:=Aa hat;have hgb:w.heap.size < W0.heap.size:=Ao W0 _ d1;clear hr1 hm hno hyes hat;go_enter Tryz.func122,Tryz.ntmps122;by_cases h64:64 < m
 ·have hI:(64:Int) < (m:Int):=by omega
  go_upto_region 1 with fail
  go_wp2_with fail
  go_ret;exact⟨by rw[HNO.out h64];rfl,hb0⟩
 ·have hI:¬(64:Int) < (m:Int):=by omega
  go_upto_region 1 with fail
  have HY2:=Aa (HYES.out h64);go_wp2_with fail
  generalize hgw:w.heap.size=gb at*;go_loopw [5] (fun r5 wr=>∃i:Nat,i≤m∧r5= .int .i64 (i:Int)∧(List.range i).all (Je sl dl rs)=true∧Below W0.heap.size W0 wr) (fun r5 _=>m - (intOf r5).toNat)
  case atStart=>exact⟨0,Ak _,rfl,rfl,Ag _ _⟩
  case round=>
   obtain⟨i,hi,rfl,hall,hb⟩:=hrel;have HALL:=Aa hall;clear hall;have e1:=Ax hb d1;have e7:=Ax hb d7;have e8:=Ax hb d8;by_cases hlt:i < m
   ·obtain⟨b,off,r,rfl,hri,hre⟩:=HRL.out.at_ (i:=i) (by rw[HM.out];exact hlt);obtain⟨⟨c0,hr0⟩,⟨c1,hr1⟩,⟨c2,hr2⟩,⟨c3,hr3⟩⟩:=hre;have f0:=Ax hb c0;have f1:=Ax hb c1;have f2:=Ax hb c2;have f3:=Ax hb c3;have HRI:=Aa hri;have hJ:(i:Int) < (m:Int):=by omega
    have hJ0:(0:Int)≤(i:Int):=by omega
    clear c0 c1 c2 c3 hri;have HAI:=Aa (Ov (syms:=sl) (dl:=dl) HRI.out);by_cases hmay:r.fou.may
    ·have HMay:=Aa hmay;have hoff:=(Bv _).1 hmay.1;have hsym:=(Bv _).1 hmay.2.1;have HC:=Aa fun W=>HMY.out r W hmay;clear hmay;go_wp2_with fail
     refine(HC.out _).mono ?_;rintro e w2 ⟨rfl,hbb⟩;have x0:w2.cell? ⟨wr.heap.size,0,none⟩=some (.int .i64 r.off):=by rw[hbb.cell (by simp)];simp
     have x1:w2.cell? ⟨wr.heap.size,1,none⟩=some (.int .i64 r.type):=by rw[hbb.cell (by simp)];simp
     have x2:w2.cell? ⟨wr.heap.size,2,none⟩=some (.int .i64 r.sym):=by rw[hbb.cell (by simp)];simp
     have hb2:Below W0.heap.size W0 w2:=(hb.alloc hb.size _).trans (hbb.mono (by simp;exact Nat.le_succ_of_le hb.size));obtain⟨gr,hgr⟩:∃gr,gr=wr.heap.size:=⟨_,rfl⟩
     rw[←hgr]at x0 x1 x2⊢;clear hbb hgr hb e1 e7 e8 f0 f1 f2 f3;have y1:=Ax hb2 d1;have y7:=Ax hb2 d7;have y8:=Ax hb2 d8;have HWr:Hid (∀W,Calls Tryz.prog 169 #[.int .i64 r.type] W fun e w'=>e= .returned (.int .i64 (widthI r.type))∧w'=W):=Aa fun W=>(Rf r.type W).mono fun _ _ x=>⟨x.1,x.2.symm⟩
     have hwd:=Rg r.type;have hok:Jc sl dl r=(decide (r.sym < (sl:Int))&&decide (r.off+widthI r.type≤(dl:Int))):=by unfold Jc;rw[Aj HMay.out];rfl
     generalize widthI r.type=wd at*;have hwr:IntKind.i64.wrap (r.off+wd)=r.off+wd:=Al _ (by have:=hoff.1;have:=hoff.2;omega);obtain⟨c8,hc8⟩:∃c,c= !(Jc sl dl r):=⟨_,rfl⟩
     have HC8:=Aa hc8;rw[hok]at hc8;clear hok;go_upto_region 8 with fail
     go_cut [47] (fun s47 wx=>s47= .bool c8∧Below W0.heap.size W0 wx∧wx.cell? ⟨gr,0,none⟩=some (.int .i64 r.off))
     case first=>
      by_cases hs1:r.sym < (sl:Int)
      ·have hq1:decide ((sl:Int)≤r.sym)=false:=Ai (by omega);by_cases hs2:r.off+wd≤(dl:Int)
       ·have hq2:decide ((dl:Int) < r.off+wd)=false:=Ai (by omega);rw[Aj hs1,Aj hs2]at hc8;subst hc8;clear hs1 hs2;go_quiet (first|(go_at_call 169;refine Calls.quiet_of_same (HWr.out _))|fail);go_wp2_with fail
        go_meet;exact⟨rfl,Bq hb2 _,x0⟩
       ·have hq2:decide ((dl:Int) < r.off+wd)=true:=Aj (by omega);rw[Aj hs1,Ai hs2]at hc8;subst hc8;clear hs1 hs2;go_quiet (first|(go_at_call 169;refine Calls.quiet_of_same (HWr.out _))|fail);go_wp2_with fail
        go_meet;exact⟨rfl,Bq hb2 _,x0⟩
      ·have hq1:decide ((sl:Int)≤r.sym)=true:=Aj (by omega);rw[Ai hs1]at hc8;subst hc8;clear hs1;go_quiet (fail);go_wp2_with fail
       go_meet;exact⟨rfl,Bq hb2 _,x0⟩
     case rest=>
      obtain⟨rfl,hb3,z0⟩:=hcut;clear hc8 x0 x1 x2 y1 y7 y8 hb2;cases c8 with
      |true=>
       have hf:Je sl dl rs i=false:=by
        rw[HAI.out];have:=HC8.out;cases hk:Jc sl dl r with
        |true=>rw[hk]at this;cases this
        |false=>rfl
       have HE:=Aa (HAT.out i hlt hf);have hbx:Below gb w wc:=hb0.trans (hb3.mono (by omega));clear hf;go_wp2_with fail
       go_ret;subst hgw;exact⟨by rw[HE.out];rfl,hbx⟩
      |false=>
       have hok1:Jc sl dl r=true:=by
        have:=HC8.out;cases hk:Jc sl dl r with
        |true=>rfl
        |false=>rw[hk]at this;cases this
       have HOK:=Aa hok1;obtain⟨c10,hc10⟩:∃c,c= !(Pv rs i r):=⟨_,rfl⟩
       have HC10:=Aa hc10;have z8:=Ax hb3 d8;clear hok1;go_upto_region 10 with fail
       go_cut [70] (fun s70 wx=>s70= .bool c10∧Below W0.heap.size W0 wx)
       case first=>
        cases i with
        |zero=>
         subst hc10;go_quiet (fail);go_wp2_with fail
         go_meet;exact⟨rfl,Bq hb3 _⟩
        |succ j=>
         obtain⟨b',off',q,hpq,hqi,hqe⟩:=HRL.out.at_ (i:=j) (by rw[HM.out];omega);simp only[Option.some.injEq,Addr.mk.injEq,and_true]at hpq;obtain⟨rfl,rfl⟩:=hpq;obtain⟨⟨c0,_⟩,⟨c1,_⟩,_,_⟩:=hqe;have f0:=Ax hb3 c0;have f1:=Ax hb3 c1;have hqok:Jc sl dl q=true:=by
          have:=List.all_eq_true.1 HALL.out j (List.mem_range.2 (by omega));rw[Ov hqi,Bool.and_eq_true]at this;exact this.1
         have hqm:q.fou.may:=by
          unfold Jc at hqok;rw[Bool.and_eq_true]at hqok;exact of_decide_eq_true hqok.1
         have hqo:0≤q.off∧q.off≤2147483647:=(Bv _).1 hqm.1;have HWq:Hid (∀W,Calls Tryz.prog 169 #[.int .i64 q.type] W fun e w'=>e= .returned (.int .i64 (widthI q.type))∧w'=W):=Aa fun W=>(Rf q.type W).mono fun _ _ x=>⟨x.1,x.2.symm⟩
         have hwq:=Rg q.type;have hbe:Pv rs (j+1) r=decide (q.off+widthI q.type≤r.off):=by
          show(match rs[j]? with|none=>true|some p=>Qu p r)=_;rw[hqi];rfl
         rw[hbe]at hc10;generalize widthI q.type=wq at*;have hwr2:IntKind.i64.wrap (q.off+wq)=q.off+wq:=Al _ (by have:=hqo.1;have:=hqo.2;omega);have hk1:((j:Int)+1 - 1)=(j:Int):=by omega
         have hk0:(0:Int)≤(j:Int):=by omega
         have hkm:(j:Int) < (m:Int):=by omega
         have hk2:(0:Int) < (j:Int)+1:=by omega
         clear c0 c1 hqi hqok hqm hbe;by_cases hs3:q.off+wq≤r.off
         ·have hq3:decide (r.off < q.off+wq)=false:=Ai (by omega);rw[Aj hs3]at hc10;subst hc10;clear hs3;go_quiet (first|(go_at_call 169;refine Calls.quiet_of_same (HWq.out _))|fail);go_wp2_with fail
          go_meet;exact⟨rfl,Bq hb3 _⟩
         ·have hq3:decide (r.off < q.off+wq)=true:=Aj (by omega);rw[Ai hs3]at hc10;subst hc10;clear hs3;go_quiet (first|(go_at_call 169;refine Calls.quiet_of_same (HWq.out _))|fail);go_wp2_with fail
          go_meet;exact⟨rfl,Bq hb3 _⟩
       case rest=>
        obtain⟨rfl,hb4⟩:=hcut;clear hc10 hb3 z0 z8;cases c10 with
        |true=>
         have hf:Je sl dl rs i=false:=by
          rw[HAI.out,HOK.out];have:=HC10.out;cases hk:Pv rs i r with
          |true=>rw[hk]at this;cases this
          |false=>rfl
         have HE:=Aa (HAT.out i hlt hf);have hbx:Below gb w wc:=hb0.trans (hb4.mono (by omega));clear hf;go_wp2_with fail
         go_ret;subst hgw;exact⟨by rw[HE.out];rfl,hbx⟩
        |false=>
         have hf:Je sl dl rs i=true:=by
          rw[HAI.out,HOK.out];have:=HC10.out;cases hk:Pv rs i r with
          |true=>rfl
          |false=>rw[hk]at this;cases this
         have HE:Hid ((List.range (i+1)).all (Je sl dl rs)=true):=Aa (by
          rw[List.range_succ,List.all_append,HALL.out]
          simp[hf])
         clear hf;go_wp2_with fail
         go_roundw
         case rel=>exact⟨i+1,hlt,by go_num,HE.out,hb4⟩
         case measure=>simp[intOf];omega
    ·have hf:Je sl dl rs i=false:=by rw[HAI.out];unfold Jc;rw[Ai hmay];rfl
     have HE:=Aa (HAT.out i hlt hf);have HC:=Aa fun W=>HMN.out r W hmay;clear hmay hf;go_wp2_with fail
     refine(HC.out _).mono ?_;rintro e w2 ⟨rfl,hbb⟩;have hbx:Below gb w w2:=hb0.trans ((((hb.alloc hb.size _).trans (hbb.mono (by simp;exact Nat.le_succ_of_le hb.size))).mono (by omega)));clear hbb;go_wp2_with fail
     go_quiet (fail);go_wp2_with fail
     go_ret;subst hgw;exact⟨by rw[HE.out];rfl,Bq hbx _⟩
   ·have hJ:¬(i:Int) < (m:Int):=by omega
    have hE:=HY2.out (by rw[show m=i by omega];exact HALL.out);have HE:=Aa hE;clear hE;go_wp2_with fail
    go_ret;exact⟨by rw[HE.out];rfl,hb0.trans (hb.mono (by omega))⟩
end Go.Proofs.YteopgmieindojaaGreat
