/- Parts of a proof. -/
import Derived.Test.YteopgmieindojaaGreatGX26
import Derived.Test.YteopgmieindojaaGreatGX29
import Derived.Test.YteopgmieindojaaGreatGX08
import Derived.Lib.AppendZeros
import Derived.Test.YteopgmieindojaaGreatGX04
import Derived.LoopTactic
import Derived.Lib.Hide
import Derived.Outline
import Derived.OwnWalk
import Derived.Laws.BitsAllLaws
import Derived.Laws.Bits64
import Derived.Deep.RegionHeld3
import Derived.Test.YteopgmieindojaaGreatGX27
import Derived.Test.YteopgmieindojaaGreatGX01
import Derived.Test.YteopgmieindojaaGreatGX28
import Derived.Test.YteopgmieindojaaGreatGX25
import Derived.Test.YteopgmieindojaaGreatGX23
import Derived.Test.YteopgmieindojaaGreatGX05
set_option maxRecDepth 1000000
set_option maxHeartbeats 8000000
namespace Go.Proofs.YteopgmieindojaaGreat
open Go.RowKit
def Fou.bd(t:Fou):Prop:=-9223372036854775808≤t.d∧t.d≤9223372036854775807
instance (t:Fou):Decidable t.bd:=by unfold Fou.bd;infer_instance
def Jr5:Prop:=∀(t:Fou)(w:World),t.bd→(t.may→Calls Tryz.prog 176 #[t.v] w (Fe (Nr t) w))∧(¬t.may→Calls Tryz.prog 176 #[t.v] w (Md 0 [] w))
theorem Jnt(n:Nat)(w:World)(hn:n≤1000000000):
 Calls Tryz.prog 174 #[.slice none 0 0,.int .i64 (n:Int)] w fun e w'=>∃v,e= .returned v∧w'.ownsRow w.heap.size 5 1 v 0 []∧Below w.heap.size w w':=by
 rcases Nat.eq_zero_or_pos n with rfl|h0
 ·go_enter Tryz.func174,Tryz.ntmps174;go_wp2_with fail
  go_ret;exact⟨_,rfl,Aq _ _ _ _,Ag _ _⟩
 ·obtain⟨i0,hi,hz0,hz1,hz2⟩:=info_parts Tryz.infoU8;have happ:=Lib.run_append_nil_zeros (P:=Tryz.prog) w 31 3 31 5 i0 (.int .u8 0) .i64 .i64 Tryz.underlying31 Tryz.underlying3 hi hz0 n h0 (by omega) (by omega) (by rw[hz2];omega);have hc1:n≤grownCap w n 0 5:=grownCap_ge w n 0 _;have hc2:grownCap w n 0 5≤maxLen:=grownCap_le_maxLen w n 0 _ (by unfold maxLen;omega);generalize grownCap w n 0 5=cap at*;have hzs:(Builtin.zeroCells (Value.int .u8 0).cells n++Builtin.zeroCells (Value.int .u8 0).cells (cap - n)).size=cap:=by simp[size_zeroCells,Value.cells];omega
  generalize (Builtin.zeroCells (Value.int .u8 0).cells n++Builtin.zeroCells (Value.int .u8 0).cells (cap - n))=Z at*;have HA:=Aa happ;have HZ:=Aa hzs;have hcp:¬cap=0:=by omega
  clear happ hi hz0 hz1 hz2 hzs;go_enter Tryz.func174,Tryz.ntmps174;go_wp2_with (at_builtin;refine Lib.wpList_append_run _ rfl _ _ _ _ rfl _ _ rfl rfl _ _ HA.out ?_)
  go_wp2_with fail
  go_ret;refine⟨_,rfl,⟨by simp,.inr ⟨w.heap.size,cap,Z,rfl,Af _,?_,Ak _,hc2,by rw[HZ.out,Nat.mul_one],by simp⟩⟩,?_⟩
  ·exact Ah w _
  ·exact((Ag _ w).alloc (Af _) _).drew
def Jce(w:World)(p:Option Addr)(bs:List (List UInt8)):Prop:=
 ∀i l,bs[i]?=some l→∃g o q n c,p=some ⟨g,o,none⟩∧w.cell? ⟨g,o+i,none⟩=some (.slice q n c)∧l.length=n∧n≤c∧c≤maxLen∧Has w q l∧(q=none→c=0)
theorem Pf{bs:List (List UInt8)}{k:Nat}{l:List UInt8}(h:bs[k]?=some l):(bs.take (k+1)).flatten=(bs.take k).flatten++l:=by
 rw[List.take_add_one,h];simp
theorem Yj(bs:List (List UInt8))(k:Nat):(bs.take k).flatten.length≤bs.flatten.length:=by
 have e:bs.flatten=(bs.take k).flatten++(bs.drop k).flatten:=by rw[←List.flatten_append,List.take_append_drop]
 have:=congrArg List.length e;rw[List.length_append]at this;omega
theorem Sw(p:Option Addr)(m c:Nat)(bs:List (List UInt8))(w:World)(h:Jce w p bs)(hlen:bs.length=m)(hm:m≤1000000)(hsum:bs.flatten.length≤100000000):
 Calls Tryz.prog 128 #[.slice p m c] w (Fe bs.flatten w):=by
 obtain⟨i0,hi,hz0,hz1,hz2⟩:=info_parts Tryz.infoU8;have HI:=Aa hi;have H0:=Aa hz0;have H1:=Aa hz1;have H2:=Aa hz2;have HX:=Aa h;have HL:=Aa hlen;have HS:=Aa (fun k=>Yj bs k);have HSUM:=Aa hsum;clear h hlen hi hz0 hz1 hz2 hsum;go_enter Tryz.func128,Tryz.ntmps128;go_wp2_with fail
 go_loop [3,5,11] (fun sz _ ii=>∃k q:Nat,k≤m∧q=(bs.take k).flatten.length∧ii= .int .i64 (k:Int)∧sz= .int .i64 (q:Int)) (fun _ _ ii=>m - (intOf ii).toNat)
 case atStart=>exact⟨0,0,Ak _,by simp,rfl,rfl⟩
 case round=>
  obtain⟨k,q,hk,hq,rfl,rfl⟩:=hrel;have HQ:=Aa hq;have hq1:q≤100000000:=by have:=HS.out k;have:=HSUM.out;omega
  by_cases hlt:k < m
  ·obtain⟨l,hl⟩:∃l,bs[k]?=some l:=⟨_,Ae (by rw[HL.out];exact hlt)⟩
   obtain⟨g,o,r,n,c',rfl,hc,hn,hnc,hcm,_,_⟩:=HX.out k l hl;have ht:=Pf hl;have hq2:q+n=(bs.take (k+1)).flatten.length:=by rw[ht,List.length_append,←hq,hn]
   have HQ2:=Aa hq2;have hq3:q+n≤100000000:=by have:=HS.out (k+1);have:=HSUM.out;omega
   have hI:(k:Int) < (m:Int):=by omega
   have hI0:(0:Int)≤(k:Int):=by omega
   clear hq hq2 ht hl hn;go_wp2_with fail
   go_round
   case rel=>exact⟨k+1,q+n,hlt,HQ2.out,by go_num,by go_num⟩
   case measure=>simp[intOf];omega
  ·have hkm:k=m:=by omega
   have HK:=Aa hkm;have hq0:¬(q:Int) < 0:=by omega
   clear hq hkm;have HG:=Aa fun W=>Jnt q W (by omega);go_wp2_with fail
   refine(HG.out _).mono ?_;rintro e w1 ⟨v1,rfl,hown1,hb1⟩;clear HG HQ hq1 hq0 HK hk hlt;go_wp2_with fail
   go_loopw [6,8,27] (fun v _ ii wr=>∃k q:Nat,k≤m∧q=(bs.take k).flatten.length∧ii= .int .i64 (k:Int)∧wr.ownsRow w.heap.size 5 1 v q (((bs.take k).flatten).map u8v)∧Below w.heap.size w wr) (fun _ _ ii _=>m - (intOf ii).toNat)
   case atStart=>exact⟨0,0,Ak _,by simp,rfl,by simpa using hown1,hb1⟩
   case round=>
    obtain⟨k,q,hk,hq,rfl,hown,hb⟩:=hrel;have HQ:=Aa hq;have hq1:q≤100000000:=by have:=HS.out k;have:=HSUM.out;omega
    clear hown1 hb1;by_cases hlt:k < m
    ·obtain⟨l,hl⟩:∃l,bs[k]?=some l:=⟨_,Ae (by rw[HL.out];exact hlt)⟩
     obtain⟨g,o,r,n,c',rfl,hc,hn,hnc,hcm,hhas,hnil⟩:=HX.out k l hl;have ht:=Pf hl;have hq2:q+n=(bs.take (k+1)).flatten.length:=by rw[ht,List.length_append,←hq,hn]
     have HQ2:=Aa hq2;have HT:=Aa ht;have HN:=Aa hn;have hq3:q+n≤100000000:=by have:=HS.out (k+1);have:=HSUM.out;omega
     have hI:(k:Int) < (m:Int):=by omega
     have hI0:(0:Int)≤(k:Int):=by omega
     have hcl:=Ax hb hc;have HH:=Aa (hhas.below hb);have HNIL:=Aa hnil;clear hq hq2 ht hl hn hc hhas hnil;go_wp2_with (at_builtin;refine Cd _ rfl _ _ 31 rfl w.heap.size 5 i0 Tryz.underlying31 HI.out H0.out H1.out H2.out _ q _ rfl hown r n c' l rfl HH.out HN.out HNIL.out (by omega) hb.size ?_)
     intro v2 w2 hown2 hgrow2 _;have hb2:Below w.heap.size w w2:=hb.grown hgrow2 hb.size (fun g hg=>(hown.lt g hg).1);have hown3:w2.ownsRow w.heap.size 5 1 v2 (q+n) (((bs.take (k+1)).flatten).map u8v):=by
      rw[HT.out];simpa using hown2
     clear hgrow2 hown hb hcl hown2;go_wp2_with fail
     go_roundw
     case rel=>exact⟨k+1,q+n,hlt,HQ2.out,by go_num,hown3,hb2⟩
     case measure=>simp[intOf];omega
    ·obtain rfl:k=m:=by omega
     have ht:bs.take k=bs:=List.take_of_length_le (by rw[HL.out];exact Af _);rw[ht]at hown hq;have HO:=Aa hown;have HQ2:=Aa hq;clear ht hown hq;go_wp2_with fail
     go_ret;exact⟨_,rfl,by rw[←HQ2.out];exact HO.out,hb⟩
theorem Jgi(n:Int)(w:World):Calls Tryz.prog 203 #[.int .i64 n] w fun e w'=>e= .returned (.bool (wid n))∧w=w':=by
 by_cases h1:n=1
 ·subst h1;go_enter Tryz.func203,Tryz.ntmps203;go_wp2;go_ret;exact⟨rfl,rfl⟩
 by_cases h2:n=2
 ·subst h2;go_enter Tryz.func203,Tryz.ntmps203;go_wp2;go_ret;exact⟨rfl,rfl⟩
 by_cases h4:n=4
 ·subst h4;go_enter Tryz.func203,Tryz.ntmps203;go_wp2;go_ret;exact⟨rfl,rfl⟩
 by_cases h8:n=8
 ·subst h8;go_enter Tryz.func203,Tryz.ntmps203;go_wp2;go_ret;exact⟨rfl,rfl⟩
 have hw:wid n=false:=by simp[wid,h1,h2,h4,h8]
 have H:=Aa hw;clear hw;have e1:(n==1)=false:=by simpa using h1
 have e2:(n==2)=false:=by simpa using h2
 have e4:(n==4)=false:=by simpa using h4
 have e8:(n==8)=false:=by simpa using h8
 clear h1 h2 h4 h8;go_enter Tryz.func203,Tryz.ntmps203;go_wp2;go_ret;exact⟨Ee H.out.symm,rfl⟩
def Mb(n v k:Nat):List Value:=((leB n v).take k).map u8v++List.replicate (n - k) (.int .u8 0)
theorem Jii(n v:Nat):Mb n v 0=List.replicate n (.int .u8 0):=by simp[Mb]
theorem Jh1(n v:Nat):Mb n v n=(leB n v).map u8v:=by
 unfold Mb;rw[List.take_of_length_le (by rw[Dp];exact Af _)];simp
theorem Jij(n v k:Nat)(hk:k < n):(Mb n v k).set k (u8v (UInt8.ofNat (v / 256 ^ k)))=Mb n v (k+1):=by
 have hl:(((leB n v).take k).map u8v).length=k:=by simp[Dp];omega
 unfold Mb;rw[List.set_append_right _ _ (by omega),hl,Nat.sub_self];have e:(leB n v).take (k+1)=(leB n v).take k++ [UInt8.ofNat (v / 256 ^ k)]:=by
  rw[List.take_add_one,Jgn n v k hk];rfl
 rw[e,show n - k=(n - (k+1))+1 by omega,List.replicate_succ,List.set_cons_zero];simp
theorem Jph(v k:Nat):((v:Int) / 2 ^ (8*k) % 256:Int)=((UInt8.ofNat (v / 256 ^ k)).toNat:Int):=by
 have e:(2:Int) ^ (8*k)=((256 ^ k:Nat):Int):=by
  rw[Int.pow_mul]
  norm_cast
 rw[e];generalize 256 ^ k=m;rw[UInt8.toNat_ofNat',Int.natCast_emod,Int.natCast_ediv];rfl
theorem Tp(n v k:Nat)(hk:k≤n):(Mb n v k).length=n:=by
 simp[Mb,Dp];omega
theorem Sa(v n:Nat)(w:World)(_hv:v < 18446744073709551616)(hn:wid n=true):
 Calls Tryz.prog 171 #[.int .u64 v,.int .i64 n] w (Fe (leB n v) w):=by
 have hn':=(Py _).1 hn;have hn1:1≤n:=by omega
 have hn8:n≤8:=by omega
 clear hn';obtain⟨i0,hi,hz0,hz1,hz2⟩:=info_parts Tryz.infoU8;have hb8:i0.bytes*n≤281474976710656:=by rw[hz2];omega
 have HI:=Aa hi;have H0:=Aa hz0;have H1:=Aa hz1;clear hi hz0 hz1 hz2;go_enter Tryz.func171,Tryz.ntmps171;go_wp2_with (first|(go_at_call 203;refine(Jgi _ _).mono ?_;rintro e w' ⟨rfl,rfl⟩)|(at_make;refine wpList_make_full _ rfl _ _ 31 rfl w.heap.size 5 i0 (.int .u8 0) 1 Tryz.underlying31 HI.out H0.out H1.out _ _ _ _ n rfl rfl rfl rfl hb8 (by unfold maxLen;omega) (Af _) ?_))
 intro w1 hown hgrow;have hbel:Below w.heap.size w w1:=(Ag _ w).grown hgrow (Af _) (fun k h=>by cases h);have hown0:w1.ownsRow w.heap.size 5 1 (.slice (some ⟨w.heap.size,0,none⟩) n n) n (Mb n v 0):=by
  rw[Jii,←toList_madeCells_one];exact hown
 clear hown hgrow;go_wp2;go_loopw [6,14] (fun _ i wr=>∃k:Nat,k≤n∧i= .int .i64 k∧wr.ownsRow w.heap.size 5 1 (.slice (some ⟨w.heap.size,0,none⟩) n n) n (Mb n v k)∧Below w.heap.size w wr) (fun _ i _=>n - (intOf i).toNat)
 case atStart=>exact⟨0,Ak _,rfl,hown0,hbel⟩
 case round=>
  obtain⟨k,hk,rfl,hown,hb⟩:=hrel;clear hown0 hbel;by_cases hlt:k < n
  ·have hc:wr.cell? ⟨w.heap.size,k,none⟩=some ((Mb n v k)[k]'(by rw[Tp n v k hk];exact hlt)):=by
    rw[hown.cellAt k (by omega)];exact Ae _
   generalize (Mb n v k)[k]'(by rw[Tp n v k hk];exact hlt)=u0 at hc;have hf:=hown.frozenAt k;have hst:=hown.stored k (u8v (UInt8.ofNat (v / 256 ^ k)));rw[Jij n v k hlt]at hst;have HS:=Aa hst;clear hst;go_wp2;go_roundw
   case rel=>
    refine⟨k+1,hlt,by go_num,?_,?_⟩
    ·rw[Jph];exact HS.out.1
    ·exact hb.setCell (Af _) _
   case measure=>simp[intOf];omega
  ·have hkn:k=n:=by omega
   have HK:=Aa hkn;clear hkn;go_wp2;go_ret;refine⟨_,rfl,?_,hb⟩;rw[Dp,←Jh1];rw[HK.out]at hown;exact hown
def Mc(w:World)(b o n c:Nat)(l:List UInt8):Prop:=l.length=n∧n≤c∧c≤maxLen∧Has w (some ⟨b,o,none⟩) l
theorem Mc.below{w w':World}{b o n c:Nat}{l:List UInt8}(h:Mc w b o n c l)(hb:Below w.heap.size w w'):Mc w' b o n c l:=⟨h.1,h.2.1,h.2.2.1,h.2.2.2.below hb⟩
theorem Db{w w':World}{b o n c:Nat}{l:List UInt8}(h:Hid (Mc w b o n c l))(hb:Below w.heap.size w w'):Hid (Mc w' b o n c l):=Aa (h.out.below hb)
def PG(n:Nat)(l:List UInt8)(W:World)(e:Ending)(w':World):Prop:=∃b o c,e= .returned (.slice (some ⟨b,o,none⟩) n c)∧Hid (Mc w' b o n c l)∧Below W.heap.size W w'
theorem Jct(v n:Nat)(W:World)(hv:v < 18446744073709551616)(hn:wid n=true):Calls Tryz.prog 171 #[.int .u64 v,.int .i64 n] W (PG n (leB n v) W):=by
 refine(Sa v n W hv hn).mono ?_;rintro e w' ⟨v',rfl,hown,hb⟩;obtain⟨p,c,rfl,h1,h2,h3,h4⟩:=Has.of_owns hown;have hn':=(Py _).1 hn;rw[Dp]at h1 h3;obtain⟨b,o,rfl,_⟩:=h4.plain (by rw[Dp];omega);exact⟨b,o,c,by rw[Dp],Aa ⟨by rw[Dp],h1,h2,h4⟩,hb⟩
theorem put1(v:Nat)(W:World)(hv:v < 18446744073709551616):Calls Tryz.prog 171 #[.int .u64 v,.int .i64 1] W (PG 1 (leB 1 v) W):=Jct v 1 W hv rfl
theorem put2(v:Nat)(W:World)(hv:v < 18446744073709551616):Calls Tryz.prog 171 #[.int .u64 v,.int .i64 2] W (PG 2 (leB 2 v) W):=Jct v 2 W hv rfl
theorem put4(v:Nat)(W:World)(hv:v < 18446744073709551616):Calls Tryz.prog 171 #[.int .u64 v,.int .i64 4] W (PG 4 (leB 4 v) W):=Jct v 4 W hv rfl
theorem put8(v:Nat)(W:World)(hv:v < 18446744073709551616):Calls Tryz.prog 171 #[.int .u64 v,.int .i64 8] W (PG 8 (leB 8 v) W):=Jct v 8 W hv rfl
theorem put10(W:World):Calls Tryz.prog 171 #[.int .u64 0,.int .i64 1] W (PG 1 [0] W):=Jct 0 1 W (by decide) rfl
theorem Jcw(n:Int)(w:World):Calls Tryz.prog 192 #[.int .i64 n] w fun e w'=>e= .returned (.int .i64 (widthI n))∧w=w':=by
 by_cases h1:n=1
 ·subst h1;go_enter Tryz.func192,Tryz.ntmps192;go_wp2;go_ret;exact⟨rfl,rfl⟩
 by_cases h2:n=2
 ·subst h2;go_enter Tryz.func192,Tryz.ntmps192;go_wp2;go_ret;exact⟨rfl,rfl⟩
 by_cases h4:n=4
 ·subst h4;go_enter Tryz.func192,Tryz.ntmps192;go_wp2;go_ret;exact⟨rfl,rfl⟩
 by_cases h10:n=10
 ·subst h10;go_enter Tryz.func192,Tryz.ntmps192;go_wp2;go_ret;exact⟨rfl,rfl⟩
 by_cases h11:n=11
 ·subst h11;go_enter Tryz.func192,Tryz.ntmps192;go_wp2;go_ret;exact⟨rfl,rfl⟩
 have HW:Hid (widthI n=0):=Aa (by simp[widthI,h1,h2,h4,h10,h11]);have e1:(n==1)=false:=by simpa using h1
 have e2:(n==2)=false:=by simpa using h2
 have e4:(n==4)=false:=by simpa using h4
 have e10:(n==10)=false:=by simpa using h10
 have e11:(n==11)=false:=by simpa using h11
 clear h1 h2 h4 h10 h11;go_enter Tryz.func192,Tryz.ntmps192;go_wp2;go_ret;rw[HW.out];exact⟨rfl,rfl⟩
theorem Ja3(n:Int)(w:World):Calls Tryz.prog 208 #[.int .i64 n] w fun e w'=>e= .returned (.bool (Bu n))∧w=w':=by
 by_cases h0:0≤n
 ·by_cases h1:n≤2147483647
  ·have H:Hid (Bu n=true):=Aa ((Bv n).2 ⟨h0,h1⟩);go_enter Tryz.func208,Tryz.ntmps208;go_wp2_with fail
   go_ret;exact⟨Ee H.out.symm,rfl⟩
  ·have H:Hid (Bu n=false):=Aa (by simp[Bu,h1]);go_enter Tryz.func208,Tryz.ntmps208;go_wp2_with fail
   go_ret;exact⟨Ee H.out.symm,rfl⟩
 ·have H:Hid (Bu n=false):=Aa (by simp[Bu,h0]);go_enter Tryz.func208,Tryz.ntmps208;go_wp2_with fail
  go_ret;exact⟨Ee H.out.symm,rfl⟩
theorem Jdk(n:Int):widthI n=0∨widthI n=4∨widthI n=8:=by
 unfold widthI;split
 ·omega
 ·split<;>omega
theorem Jd0(t:Fou)(w:World):Calls Tryz.prog 186 #[t.v] w fun e w'=>e= .returned (.bool (decide t.may))∧Below w.heap.size w w':=by
 have hb:=(Ag _ w).alloc (Af _) (.cells #[.int .i64 t.a,.int .i64 t.b,.int .i64 t.c,.int .i64 t.d] 94);have HA:=Aa (Ja3 t.a);have HC:=Aa (Ja3 t.c);have HW:=Aa (Jcw t.b);cases hA:Bu t.a with
 |false=>
  have HM:Hid (decide t.may=false):=Aa (Ai (by unfold Fou.may;rw[hA];simp));rw[hA]at HA;clear hA HC HW;go_enter Tryz.func186,Tryz.ntmps186;go_wp2_with (go_at_call 208;refine(HA.out _).mono ?_;rintro e w' ⟨rfl,rfl⟩)
  go_ret;exact⟨Ee HM.out.symm,hb⟩
 |true=>
  cases hC:Bu t.c with
  |false=>
   have HM:Hid (decide t.may=false):=Aa (Ai (by unfold Fou.may;rw[hC];simp));rw[hA]at HA;rw[hC]at HC;clear hA hC HW;go_enter Tryz.func186,Tryz.ntmps186;go_wp2_with fail
   refine(HA.out _).mono ?_;rintro e w' ⟨rfl,rfl⟩;go_wp2_with fail
   refine(HC.out _).mono ?_;rintro e w' ⟨rfl,rfl⟩;go_wp2_with fail
   go_ret;exact⟨Ee HM.out.symm,hb⟩
  |true=>
   rw[hA]at HA;rw[hC]at HC;rcases Jdk t.b with hW|hW|hW
   ·have HM:Hid (decide t.may=false):=Aa (Ai (by unfold Fou.may;rw[hW];simp));rw[hW]at HW;clear hA hC hW;go_enter Tryz.func186,Tryz.ntmps186;go_wp2_with fail
    refine(HA.out _).mono ?_;rintro e w' ⟨rfl,rfl⟩;go_wp2_with fail
    refine(HC.out _).mono ?_;rintro e w' ⟨rfl,rfl⟩;go_wp2_with fail
    refine(HW.out _).mono ?_;rintro e w' ⟨rfl,rfl⟩;go_wp2_with fail
    go_ret;exact⟨Ee HM.out.symm,hb⟩
   ·have HM:Hid (decide t.may=true):=Aa (Aj ⟨hA,hC,by omega⟩);rw[hW]at HW;clear hA hC hW;go_enter Tryz.func186,Tryz.ntmps186;go_wp2_with fail
    refine(HA.out _).mono ?_;rintro e w' ⟨rfl,rfl⟩;go_wp2_with fail
    refine(HC.out _).mono ?_;rintro e w' ⟨rfl,rfl⟩;go_wp2_with fail
    refine(HW.out _).mono ?_;rintro e w' ⟨rfl,rfl⟩;go_wp2_with fail
    go_ret;exact⟨Ee HM.out.symm,hb⟩
   ·have HM:Hid (decide t.may=true):=Aa (Aj ⟨hA,hC,by omega⟩);rw[hW]at HW;clear hA hC hW;go_enter Tryz.func186,Tryz.ntmps186;go_wp2_with fail
    refine(HA.out _).mono ?_;rintro e w' ⟨rfl,rfl⟩;go_wp2_with fail
    refine(HC.out _).mono ?_;rintro e w' ⟨rfl,rfl⟩;go_wp2_with fail
    refine(HW.out _).mono ?_;rintro e w' ⟨rfl,rfl⟩;go_wp2_with fail
    go_ret;exact⟨Ee HM.out.symm,hb⟩
theorem Jq2(t:Fou)(w:World)(h:¬t.may):Calls Tryz.prog 176 #[t.v] w (Md 0 [] w):=by
 have HM:=Aa fun W=>Jd0 t W;rw[Ai h]at HM;clear h;go_enter Tryz.func176,Tryz.ntmps176;go_wp2_with fail
 refine(HM.out _).mono ?_;rintro e w1 ⟨rfl,hb⟩;have hb1:Below w.heap.size w w1:=((Ag _ w).alloc (Af _) _).trans (hb.mono (by simp));clear hb;go_wp2_with fail
 go_ret;exact⟨none,0,rfl,rfl,Af _,Ak _,Has.none_ _ _,hb1⟩
theorem Ji8(w:World)(T:TypeId)(b1 o1 n1 c1 b2 o2 n2 c2 b3 o3 n3 c3 b4 o4 n4 c4:Nat)(l1 l2 l3 l4:List UInt8)
 (h1:Hid (Mc w b1 o1 n1 c1 l1))(h2:Hid (Mc w b2 o2 n2 c2 l2))(h3:Hid (Mc w b3 o3 n3 c3 l3))(h4:Hid (Mc w b4 o4 n4 c4 l4)):
 Jce (w.alloc (.cells #[.slice (some ⟨b1,o1,none⟩) n1 c1,.slice (some ⟨b2,o2,none⟩) n2 c2,.slice (some ⟨b3,o3,none⟩) n3 c3,.slice (some ⟨b4,o4,none⟩) n4 c4] T))
  (some ⟨w.heap.size,0,none⟩) [l1,l2,l3,l4]:=fun i l hl=>by
 have hb:Below w.heap.size w (w.alloc (.cells #[.slice (some ⟨b1,o1,none⟩) n1 c1,.slice (some ⟨b2,o2,none⟩) n2 c2,.slice (some ⟨b3,o3,none⟩) n3 c3,.slice (some ⟨b4,o4,none⟩) n4 c4] T)):=(Ag _ w).alloc (Af _) _;have hcell:∀v,(#[Value.slice (some ⟨b1,o1,none⟩) n1 c1,.slice (some ⟨b2,o2,none⟩) n2 c2,.slice (some ⟨b3,o3,none⟩) n3 c3,.slice (some ⟨b4,o4,none⟩) n4 c4]:Array Value)[0+i]?=some v→
  (w.alloc (.cells #[.slice (some ⟨b1,o1,none⟩) n1 c1,.slice (some ⟨b2,o2,none⟩) n2 c2,.slice (some ⟨b3,o3,none⟩) n3 c3,.slice (some ⟨b4,o4,none⟩) n4 c4] T)).cell? ⟨w.heap.size,0+i,none⟩=some v:=fun v hv=>
  (Am _ w.heap.size (0+i) _ T (0,0) (Ah w _)).trans hv
 match i,hl with
 |0,hl=>cases hl;exact⟨_,_,_,_,_,rfl,hcell _ rfl,h1.out.1,h1.out.2.1,h1.out.2.2.1,h1.out.2.2.2.below hb,fun e=>by cases e⟩
 |1,hl=>cases hl;exact⟨_,_,_,_,_,rfl,hcell _ rfl,h2.out.1,h2.out.2.1,h2.out.2.2.1,h2.out.2.2.2.below hb,fun e=>by cases e⟩
 |2,hl=>cases hl;exact⟨_,_,_,_,_,rfl,hcell _ rfl,h3.out.1,h3.out.2.1,h3.out.2.2.1,h3.out.2.2.2.below hb,fun e=>by cases e⟩
 |3,hl=>cases hl;exact⟨_,_,_,_,_,rfl,hcell _ rfl,h4.out.1,h4.out.2.1,h4.out.2.2.1,h4.out.2.2.2.below hb,fun e=>by cases e⟩
def Ic(w:World)(g:Nat)(a b c:Nat)(d:Int):Prop:=w.cell? ⟨g,0,none⟩=some (.int .i64 (a:Int))∧w.cell? ⟨g,1,none⟩=some (.int .i64 (b:Int))∧w.cell? ⟨g,2,none⟩=some (.int .i64 (c:Int))∧
 w.cell? ⟨g,3,none⟩=some (.int .i64 d)
theorem Ic.later{w w':World}{g a b c:Nat}{d:Int}(h:Hid (Ic w g a b c d))(hb:Below w.heap.size w w'):Hid (Ic w' g a b c d):=
 Aa ⟨Ax hb h.out.1,Ax hb h.out.2.1,Ax hb h.out.2.2.1,Ax hb h.out.2.2.2⟩
theorem Joo(a b c:Nat)(d:Int)(w:World)(h:(Fou.mk a b c d).may):Calls Tryz.prog 176 #[Fou.v ⟨a,b,c,d⟩] w (Fe (Nr ⟨a,b,c,d⟩) w):=by
 have HM:=Aa fun W=>Jd0 ⟨a,b,c,d⟩ W;rw[Aj h]at HM;obtain⟨f0,f2,f1⟩:=h;simp only[Bv]at f0 f2;have g1:=St f1;simp only at g1;have kw:∀v:Nat,v < 18446744073709551616→IntKind.u64.wrap (v:Int)=(v:Int):=fun v hv=>by rw[Jm,Fl v hv]
 have ka:=kw a (by omega);have kb:=kw b (by omega);have kc:=kw c (by omega);have kd:=Jm d;have hdn:=Vg d;have hrel:Nr ⟨a,b,c,d⟩= [leB 8 a,leB 4 b,leB 4 c,leB 8 (u64n d)].flatten:=by
  have e1:Nr ⟨a,b,c,d⟩=leB 8 (u64n a)++(leB 4 (u64n b)++(leB 4 (u64n c)++(leB 8 (u64n d)++ []))):=rfl;rw[e1,Fl a (by omega),Fl b (by omega),Fl c (by omega)];rfl
 have HE:=Aa hrel;generalize u64n d=y at*;have P1:=Aa fun W=>put8 a W (by omega);have P2:=Aa fun W=>put4 b W (by omega);have P3:=Aa fun W=>put4 c W (by omega);have P4:=Aa fun W=>put8 y W hdn;have hlen: [leB 8 a,leB 4 b,leB 4 c,leB 8 y].flatten.length=24:=by simp[Dp]
 have HL:=Aa hlen;clear kw hrel hlen f0 f2 f1 g1 hdn;go_enter Tryz.func176,Tryz.ntmps176;go_wp2_with fail
 refine(HM.out _).mono ?_;rintro e' w1 ⟨rfl,hb⟩;have hb1:Below w.heap.size w w1:=((Ag _ w).alloc (Af _) _).trans (hb.mono (by simp));have S0:Hid (Ic w1.drew w.heap.size a b c d):=Aa ⟨by rw[show w1.drew.cell?=w1.cell? from rfl,hb.cell (by simp)];simp,by rw[show w1.drew.cell?=w1.cell? from rfl,hb.cell (by simp)];simp,by rw[show w1.drew.cell?=w1.cell? from rfl,hb.cell (by simp)];simp,by rw[show w1.drew.cell?=w1.cell? from rfl,hb.cell (by simp)];simp⟩;clear hb;go_wp2_with fail
 go_region_held3 (fun w'=>w'.cell? ⟨w.heap.size,0,none⟩=some (.int .i64 (a:Int))∧w'.cell? ⟨w.heap.size,1,none⟩=some (.int .i64 (b:Int))∧w'.cell? ⟨w.heap.size,2,none⟩=some (.int .i64 (c:Int))∧
  w'.cell? ⟨w.heap.size,3,none⟩=some (.int .i64 d))
  (first|exact S5.out|exact(Ic.later S4 ((Ag _ w5).alloc (Af _) _)).out|exact S4.out|exact S3.out|exact S2.out|exact S1.out|exact S0.out|fail)
  ((first
    |(go_at_call 128
      have HB:=Ji8 w5 31 _ _ _ _ _ _ _ _ _ _ _ _ _ _ _ _ _ _ _ _ q14 q24 q34 q44;refine(Sw _ 4 4 _ _ HB rfl (by decide) (by rw[HL.out];decide)).mono ?_;rintro e' w6 ⟨v6,rfl,hown6,B6⟩;have S5:=Ic.later (Ic.later S4 ((Ag _ w5).alloc (Af _) _)) B6;have BB6:Below w.heap.size w w6:=(BB4.alloc BB4.size _).trans (B6.mono (by exact(BB4.alloc BB4.size _).size))
      have hown7:=Cm hown6 (c:=w.heap.size) (by exact(BB4.alloc BB4.size _).size))
    |(go_at_call 171
      have _guard:=S3;refine(P4.out _).mono ?_;rintro e' w5 ⟨b4,o4,c4,rfl,q44,B4⟩;have q14:=Db q13 B4;have q24:=Db q23 B4;have q34:=Db q33 B4;have S4:=Ic.later S3 B4;have BB4:Below w.heap.size w w5:=BB3.trans (B4.mono (by exact BB3.size))
      clear B4 q13 q23 q33)
    |(go_at_call 171
      have _guard:=S2;refine(P3.out _).mono ?_;rintro e' w4 ⟨b3,o3,c3,rfl,q33,B3⟩;have q13:=Db q12 B3;have q23:=Db q22 B3;have S3:=Ic.later S2 B3;have BB3:Below w.heap.size w w4:=BB2.trans (B3.mono (by exact BB2.size))
      clear B3 q12 q22)
    |(go_at_call 171
      have _guard:=S1;refine(P2.out _).mono ?_;rintro e' w3 ⟨b2,o2,c2,rfl,q22,B2⟩;have q12:=Db q11 B2;have S2:=Ic.later S1 B2;have BB2:Below w.heap.size w w3:=BB1.trans (B2.mono (by exact BB1.size))
      clear B2 q11)
    |(go_at_call 171
      refine(P1.out _).mono ?_;rintro e' w2 ⟨b1,o1,c1,rfl,q11,B1⟩;have S1:=Ic.later S0 B1;have BB1:Below w.heap.size w w2:=hb1.drew.trans (B1.mono (by exact hb1.size))
      clear B1)
    |fail))
 go_wp2_with fail
 go_ret;exact⟨_,rfl,by rw[HE.out];exact hown7,BB6⟩
theorem Jqa:Jr5:=fun t w hd=>by
 refine⟨fun hm=>?_,fun hm=>Jq2 t w hm⟩;obtain⟨a,b,c,d⟩:=t;have h':=hm;obtain⟨f0,f2,f1⟩:=h';simp only[Bv]at f0 f2;have g1:=St f1;simp only at g1;obtain⟨a,rfl⟩:=Au f0.1;obtain⟨b,rfl⟩:=Au (show 0≤b by omega);obtain⟨c,rfl⟩:=Au f2.1;exact Joo a b c d w hm
def Gf(yl:Nat)(dl:Nat):Int→List Ea→Bool
 |_, []=>true
 |e,r::t=>(widthI r.type != 0)&&(inR r.sym 0 ((yl:Int) - 1)&&(inR r.off e ((dl:Int) - widthI r.type)&&Gf yl dl (r.off+widthI r.type) t))
def relsO(yl dl:Nat)(rs:List Ea):Bool:=bif decide (64 < rs.length)then false else Gf yl dl 0 rs
theorem Jch(n:Int):widthI n=0∨widthI n=4∨widthI n=8:=by
 unfold widthI;split
 ·exact .inr (.inr rfl)
 ·split
  ·exact .inr (.inl rfl)
  ·exact .inl rfl
theorem Zl(nm:ByteArray)(ty fl al en li sz:Int)(dp rp:Option Addr)(dl dc rc yl:Nat)(rs:List Ea)(w:World)(hrs:Bg 4 Hk w rp rs)(hdm:dl≤maxLen)(hyl:yl≤1000000):
 Calls Tryz.prog 157 #[Pe nm ty fl al en li sz (.slice dp dl dc) (.slice rp rs.length rc),.int .i64 (yl:Int)] w fun e w'=>e= .returned (.bool (relsO yl dl rs))∧Below w.heap.size w w':=by
 have hb1:Below w.heap.size w (w.alloc (.cells #[.string nm,.int .i64 ty,.int .i64 fl,.int .i64 al,.int .i64 en,.int .i64 li,.int .i64 sz,.slice dp dl dc,.slice rp rs.length rc] 89)):=(Ag _ w).alloc (Af _) _;have hha:=Dd w (.cells #[.string nm,.int .i64 ty,.int .i64 fl,.int .i64 al,.int .i64 en,.int .i64 li,.int .i64 sz,.slice dp dl dc,.slice rp rs.length rc] 89);have HS:=Aa (Nl.of hha);have HRH:=Aa (hrs.below Hk.keeps hb1);have HB1:=Aa hb1;have hr:relsO yl dl rs=bif decide (64 < rs.length)then false else Gf yl dl 0 rs:=rfl
 unfold maxLen at hdm;generalize relsO yl dl rs=res at*;generalize hrn:rs.length=rl at*;have HRN:=Aa hrn;have HR:=Aa hr;have hky:IntKind.i64.wrap ((yl:Int) - 1)=(yl:Int) - 1:=Al _ (by omega);clear hr hb1 hha hrs hrn;go_enter Tryz.func157,Tryz.ntmps157;go_upto_region 1 with fail
 generalize w.alloc (.cells #[.string nm,.int .i64 ty,.int .i64 fl,.int .i64 al,.int .i64 en,.int .i64 li,.int .i64 sz,.slice dp dl dc,.slice rp rl rc] 89)=W1 at*;obtain⟨s0,s1,s2,s3,s4,s5,s6,s7,s8⟩:=HS.out;have hbs:=HB1.out.size;by_cases h64:64 < rl
 ·have hE:Hid (res=false):=Aa (by rw[HR.out,Aj h64];rfl);have hI:(64:Int) < (rl:Int):=by omega
  clear h64;go_wp2_with fail
  go_ret;rw[hE.out];exact⟨rfl,HB1.out⟩
 ·have hE:Hid (res=Gf yl dl 0 rs):=Aa (by rw[HR.out,Ai h64];rfl);have hI:¬(64:Int) < (rl:Int):=by omega
  clear HR;go_wp2_with fail
  go_loopw [5,16] (fun r5 r16 wr=>∃(k:Nat)(en:Int),k≤rl∧r16= .int .i64 (k:Int)∧r5= .int .i64 en∧Gf yl dl 0 rs=Gf yl dl en (rs.drop k)∧Below W1.heap.size W1 wr) (fun _ r16 _=>rl - (intOf r16).toNat)
  case atStart=>exact⟨0,0,Ak _,rfl,rfl,rfl,Ag _ _⟩
  case round=>
   obtain⟨k,en',hk,rfl,rfl,hgo,hb⟩:=hrel;have HGO:=Aa hgo;have HS1:=Aa (HS.out.later hb);clear hgo;by_cases hlt:k < rl
   ·obtain⟨b,off,r,rfl,hrk,⟨x0,hx0⟩,⟨x1,_⟩,⟨x2,_⟩,⟨x3,_⟩⟩:=HRH.out.at_ (i:=k) (by rw[HRN.out];exact hlt);have d0:=Ax hb x0;have d1:=Ax hb x1;have d2:=Ax hb x2;have d3:=Ax hb x3;have hdr:rs.drop k=r::rs.drop (k+1):=by
     rw[List.drop_eq_getElem_cons (by rw[HRN.out];exact hlt)];congr 1;exact(Ab.1 hrk).2
    have hwb:=Jch r.type;have HZ:=Aa fun W=>Jcw r.type W;have HW1:=Aa fun W=>Ek r.sym 0 ((yl:Int) - 1) W;have HW2:=Aa fun W=>Ek r.off en' ((dl:Int) - widthI r.type) W;have hstep:res=((widthI r.type != 0)&&(inR r.sym 0 ((yl:Int) - 1)&&(inR r.off en' ((dl:Int) - widthI r.type)&&Gf yl dl (r.off+widthI r.type) (rs.drop (k+1))))):=by rw[hE.out,HGO.out,hdr];rfl
    have hoff:inR r.off en' ((dl:Int) - widthI r.type)=true→r.off≤(dl:Int) - widthI r.type:=fun h=>by
     unfold inR at h;rw[Bool.and_eq_true]at h;exact of_decide_eq_true h.2
    have hba:Below wr.heap.size wr (wr.alloc (.cells #[.int .i64 r.off,.int .i64 r.type,.int .i64 r.sym,.int .i64 r.add] 94)):=(Ag _ wr).alloc (Af _) _;have hha:=Dd wr (.cells #[.int .i64 r.off,.int .i64 r.type,.int .i64 r.sym,.int .i64 r.add] 94);have HS2:=Aa (HS1.out.later hba);have hb2:Below W1.heap.size W1 (wr.alloc (.cells #[.int .i64 r.off,.int .i64 r.type,.int .i64 r.sym,.int .i64 r.add] 94)):=hb.trans (hba.mono hb.size);have HSTEP:=Aa hstep;have HOFF:=Aa hoff;have hJ:(k:Int) < (rl:Int):=by omega
    have k2:(0:Int)≤(k:Int):=by omega
    have kdw:IntKind.i64.wrap ((dl:Int) - widthI r.type)=(dl:Int) - widthI r.type:=Al _ (by omega);generalize inR r.sym 0 ((yl:Int) - 1)=q1 at*;generalize inR r.off en' ((dl:Int) - widthI r.type)=q2 at*;generalize widthI r.type=wd at*;clear hrk x0 x1 x2 x3 hdr hstep hoff HS1;go_upto_region 7 with fail
    generalize wr.alloc (.cells #[.int .i64 r.off,.int .i64 r.type,.int .i64 r.sym,.int .i64 r.add] 94)=ws at*;have g0:ws.cell? ⟨wr.heap.size,0,none⟩=some (.int .i64 r.off):=(Am ws wr.heap.size 0 _ _ (0,0) hha).trans rfl;have g1:ws.cell? ⟨wr.heap.size,1,none⟩=some (.int .i64 r.type):=(Am ws wr.heap.size 1 _ _ (0,0) hha).trans rfl;have g2:ws.cell? ⟨wr.heap.size,2,none⟩=some (.int .i64 r.sym):=(Am ws wr.heap.size 2 _ _ (0,0) hha).trans rfl;obtain⟨_,_,_,_,_,_,_,t7,t8⟩:=HS2.out;clear d0 d1 d2 d3 hha hba hb;go_wp2_with fail
    refine(HZ.out _).mono ?_;rintro e w' ⟨rfl,rfl⟩;have hfin:Below w.heap.size w ws:=HB1.out.trans (hb2.mono hbs);cases tz:(wd==0)with
    |true=>
     have hE2:Hid (res=false):=Aa (by
      have h:(wd != 0)=false:=by unfold bne;rw[tz];rfl
      rw[HSTEP.out,h];rfl)
     go_wp2_with fail
     go_ret;rw[hE2.out];exact⟨rfl,hfin⟩
    |false=>
     have hE2:Hid (res=(q1&&(q2&&Gf yl dl (r.off+wd) (rs.drop (k+1))))):=Aa (by
      have h:(wd != 0)=true:=by unfold bne;rw[tz];rfl
      rw[HSTEP.out,h];rfl)
     clear HSTEP;go_wp2_with fail
     refine(HW1.out _).mono ?_;rintro e w' ⟨rfl,rfl⟩;cases q1 with
     |false=>
      have hE3:Hid (res=false):=Aa (by rw[hE2.out];rfl);go_wp2_with fail
      go_ret;rw[hE3.out];exact⟨rfl,hfin⟩
     |true=>
      go_wp2_with fail
      refine(HW2.out _).mono ?_;rintro e w' ⟨rfl,rfl⟩;cases q2 with
      |false=>
       have hE3:Hid (res=false):=Aa (by rw[hE2.out];rfl);go_wp2_with fail
       go_ret;rw[hE3.out];exact⟨rfl,hfin⟩
      |true=>
       have hE3:Hid (res=Gf yl dl (r.off+wd) (rs.drop (k+1))):=Aa (by rw[hE2.out];rfl);have hle:=HOFF.out (by trivial);have kow:IntKind.i64.wrap (r.off+wd)=r.off+wd:=Al _ (by omega);have hE4:Hid (Gf yl dl 0 rs=Gf yl dl (r.off+wd) (rs.drop (k+1))):=Aa (by rw[←hE.out];exact hE3.out);go_wp2_with fail
       go_roundw
       case rel=>exact⟨k+1,r.off+wd,hlt,by go_num,rfl,hE4.out,hb2⟩
       case measure=>simp[intOf];omega
   ·obtain rfl:k=rl:=by omega
    have hJ:¬(k:Int) < (k:Int):=by omega
    have hE2:Hid (res=true):=Aa (by rw[hE.out,HGO.out,List.drop_eq_nil_of_le (by rw[HRN.out];exact Af _)];rfl);go_wp2_with fail
    go_ret;rw[hE2.out];exact⟨rfl,HB1.out.trans (hb.mono hbs)⟩
def secAllO(ql yl:Nat)(i:Nat)(s:Ca):Bool:=
 secO s.name s.type s.flags s.align s.ent s.size s.data.length s.rels.length (s.data.getLast?==some 0)&&(linkO s.flags s.link ((i:Int)+1) (ql:Int)&&relsO yl s.data.length s.rels)
theorem Zm(v2 v4:Value)(hs:Bool)(p0 p1:Option Addr)(c0 c1 yl:Nat)(secs:List Ca)(w:World)(hq:Bg 9 Ev w p0 secs)(hql:secs.length≤1000000)(hyl:yl≤1000000):
 Calls Tryz.prog 95 #[Gq (.slice p0 secs.length c0) (.slice p1 yl c1) v2 hs v4] w fun e w'=>e= .returned (.bool (eachB (secAllO secs.length yl) secs))∧Below w.heap.size w w':=by
 have hb1:Below w.heap.size w (w.alloc (.cells #[.slice p0 secs.length c0,.slice p1 yl c1,v2,.bool hs,v4] 27)):=(Ag _ w).alloc (Af _) _;have a0:(w.alloc (.cells #[.slice p0 secs.length c0,.slice p1 yl c1,v2,.bool hs,v4] 27)).cell? ⟨w.heap.size,0,none⟩=some (.slice p0 secs.length c0):=by simp
 have a1:(w.alloc (.cells #[.slice p0 secs.length c0,.slice p1 yl c1,v2,.bool hs,v4] 27)).cell? ⟨w.heap.size,1,none⟩=some (.slice p1 yl c1):=by simp
 have HQ:=Aa (hq.below Ev.keeps hb1);have HB1:=Aa hb1;have hF:∀(i:Nat)(s:Ca),secs[i]?=some s→secAllO secs.length yl i s=false→eachB (secAllO secs.length yl) secs=false:=fun i s h1 h2=>Lq h1 h2;have hST:∀(i:Nat)(s:Ca),secs[i]?=some s→eachB (secAllO secs.length yl) (secs.take (i+1))=(eachB (secAllO secs.length yl) (secs.take i)&&secAllO secs.length yl i s):=fun i s h=>Kp h;have hall:eachB (secAllO secs.length yl) (secs.take secs.length)=eachB (secAllO secs.length yl) secs:=Ja5;generalize eachB (secAllO secs.length yl) secs=res at*;generalize hqn:secs.length=ql at*;have HQN:=Aa hqn;have HF:=Aa hF;have HST:=Aa hST;have HALL:=Aa hall;clear hb1 hq hqn hF hST hall;go_enter Tryz.func95,Tryz.ntmps95;go_upto_region 1 with fail
 generalize w.alloc (.cells #[.slice p0 ql c0,.slice p1 yl c1,v2,.bool hs,v4] 27)=W1 at*;have hbs:=HB1.out.size;go_wp2_with fail
 go_loopw [3,8] (fun r3 r8 wr=>∃(k:Nat),k≤ql∧r8= .int .i64 (k:Int)∧eachB (secAllO ql yl) (secs.take k)=true∧Below W1.heap.size W1 wr) (fun _ r8 _=>ql - (intOf r8).toNat)
 case atStart=>exact⟨0,Ak _,rfl,by simp[eachB],Ag _ _⟩
 case round=>
  obtain⟨k,hk,rfl,hall,hb⟩:=hrel;have HA:=Aa hall;clear hall;by_cases hlt:k < ql
  ·obtain⟨b,off,s,rfl,hsk,⟨d0,_⟩,⟨d1,_⟩,⟨d2,_⟩,⟨d3,_⟩,⟨d4,_⟩,⟨d5,_⟩,⟨d6,_⟩,⟨vd,d7,hvd⟩,⟨vr,d8,hvr⟩⟩:=HQ.out.at_ (i:=k) (by rw[HQN.out];exact hlt);obtain⟨dp,dc,rfl,l1,l2,_,hdh⟩:=hvd;obtain⟨rp,rc,rfl,m1,m2,_,hrh⟩:=hvr;have e0:=Ax hb d0;have e1:=Ax hb d1;have e2:=Ax hb d2;have e3:=Ax hb d3;have e4:=Ax hb d4;have e5:=Ax hb d5;have e6:=Ax hb d6;have e7:=Ax hb d7;have e8:=Ax hb d8;have hba:Below wr.heap.size wr (wr.alloc (.cells #[.string s.name,.int .i64 s.type,.int .i64 s.flags,.int .i64 s.align,.int .i64 s.ent,.int .i64 s.link,.int .i64 s.size,.slice dp s.data.length dc,.slice rp s.rels.length rc] 89)):=(Ag _ wr).alloc (Af _) _;have hha:=Dd wr (.cells #[.string s.name,.int .i64 s.type,.int .i64 s.flags,.int .i64 s.align,.int .i64 s.ent,.int .i64 s.link,.int .i64 s.size,.slice dp s.data.length dc,.slice rp s.rels.length rc] 89);have HS:=Aa (Nl.of hha);have hbk:Below W1.heap.size W1 (wr.alloc (.cells #[.string s.name,.int .i64 s.type,.int .i64 s.flags,.int .i64 s.align,.int .i64 s.ent,.int .i64 s.link,.int .i64 s.size,.slice dp s.data.length dc,.slice rp s.rels.length rc] 89)):=hb.trans (hba.mono hb.size);have HM:=Aa fun W (hW:Below W1.heap.size W1 W)=>Jbp s.name s.type s.flags s.align s.ent s.link s.size dp rp s.data.length dc s.rels.length rc s.data W (hdh.below Ds.keeps hW).has rfl l1 l2;have HL:=Aa fun W=>Zt s.name s.type s.flags s.align s.ent s.link s.size (.slice dp s.data.length dc) rp s.rels.length rc dp s.data.length dc ((k:Int)+1) (ql:Int) W rfl;have HR:=Aa fun W (hW:Below W1.heap.size W1 W)=>Zl s.name s.type s.flags s.align s.ent s.link s.size dp rp s.data.length dc rc yl s.rels W (hrh.below Hk.keeps hW) (Aw l1 l2) hyl;have hsa:secAllO ql yl k s=(secO s.name s.type s.flags s.align s.ent s.size s.data.length s.rels.length (s.data.getLast?==some 0)&&(linkO s.flags s.link ((k:Int)+1) (ql:Int)&&relsO yl s.data.length s.rels)):=rfl;have hf:=fun h=>HF.out k s hsk h;have hst:=HST.out k s hsk;generalize secAllO ql yl k s=sa at*;generalize secO s.name s.type s.flags s.align s.ent s.size s.data.length s.rels.length (s.data.getLast?==some 0)=q1 at*;generalize linkO s.flags s.link ((k:Int)+1) (ql:Int)=q2 at*;generalize relsO yl s.data.length s.rels=q3 at*;have HSA:=Aa hsa;have HFF:=Aa hf;have HSS:=Aa hst;have hJ:(k:Int) < (ql:Int):=by omega
   have k2:(0:Int)≤(k:Int):=by omega
   have kw:IntKind.i64.wrap ((k:Int)+1)=(k:Int)+1:=Al _ (by omega);clear hsk d0 d1 d2 d3 d4 d5 d6 d7 d8 hdh hrh l1 l2 m1 m2 hha hsa hf hst;generalize s.data.length=dn at*;generalize s.rels.length=rn at*;go_upto_region 4 with fail
   generalize wr.alloc (.cells #[.string s.name,.int .i64 s.type,.int .i64 s.flags,.int .i64 s.align,.int .i64 s.ent,.int .i64 s.link,.int .i64 s.size,.slice dp dn dc,.slice rp rn rc] 89)=ws at*;obtain⟨s0,s1,s2,s3,s4,s5,s6,s7,s8⟩:=HS.out;have hbks:=hbk.size;clear e0 e1 e2 e3 e4 e5 e6 e7 e8 hba hb;go_wp2_with fail
   refine(HM.out _ hbk).mono ?_;rintro e w2 ⟨rfl,hb2⟩;have HS2:=Aa (HS.out.later hb2);have hbk2:Below W1.heap.size W1 w2:=hbk.trans (hb2.mono hbks);have hbk2s:=hbk2.size;clear s0 s1 s2 s3 s4 s5 s6 s7 s8 hb2 HS hbk;obtain⟨s0,s1,s2,s3,s4,s5,s6,s7,s8⟩:=HS2.out;have b0:=Ax hbk2 a0;have b1:=Ax hbk2 a1;cases q1 with
   |false=>
    have hE:=Aa (HFF.out (by rw[HSA.out];rfl));go_wp2_with fail
    go_ret;rw[hE.out];exact⟨rfl,HB1.out.trans (hbk2.mono hbs)⟩
   |true=>
    go_wp2_with fail
    refine(HL.out _).mono ?_;rintro e w3 ⟨rfl,hb3⟩;have HS3:=Aa (HS2.out.later hb3);have hbk3:Below W1.heap.size W1 w3:=hbk2.trans (hb3.mono hbk2s);have hbk3s:=hbk3.size;clear s0 s1 s2 s3 s4 s5 s6 s7 s8 hb3 HS2 hbk2 b0 b1;obtain⟨s0,s1,s2,s3,s4,s5,s6,s7,s8⟩:=HS3.out;have b0:=Ax hbk3 a0;have b1:=Ax hbk3 a1;cases q2 with
    |false=>
     have hE:=Aa (HFF.out (by rw[HSA.out];rfl));go_wp2_with fail
     go_ret;rw[hE.out];exact⟨rfl,HB1.out.trans (hbk3.mono hbs)⟩
    |true=>
     go_wp2_with fail
     refine(HR.out _ hbk3).mono ?_;rintro e w4 ⟨rfl,hb4⟩;have hbk4:Below W1.heap.size W1 w4:=hbk3.trans (hb4.mono hbk3s);clear s0 s1 s2 s3 s4 s5 s6 s7 s8 hb4 HS3 hbk3 b0 b1;cases q3 with
     |false=>
      have hE:=Aa (HFF.out (by rw[HSA.out];rfl));go_wp2_with fail
      go_ret;rw[hE.out];exact⟨rfl,HB1.out.trans (hbk4.mono hbs)⟩
     |true=>
      have hE:Hid (eachB (secAllO ql yl) (secs.take (k+1))=true):=Aa (by rw[HSS.out,HA.out,HSA.out];rfl);go_wp2_with fail
      go_roundw
      case rel=>exact⟨k+1,hlt,by go_num,hE.out,hbk4⟩
      case measure=>simp[intOf];omega
  ·obtain rfl:k=ql:=by omega
   have hJ:¬(k:Int) < (k:Int):=by omega
   have hE:Hid (res=true):=Aa (by rw[←HALL.out];exact HA.out);go_wp2_with fail
   go_ret;rw[hE.out];exact⟨rfl,HB1.out.trans (hb.mono hbs)⟩
def sigO(hs:Bool)(yl:Nat)(l:List Int):Bool:=bif hs then l.all (fun n=>inR n 0 ((yl:Int) - 1))else(l.length==0)
theorem Jb2(v0 v2 v4:Value)(p1:Option Addr)(yl c1:Nat)(hs:Bool)(sig:List Int)(w:World)(hx:IsL 1 Cc w v4 sig)(hyl:yl≤1000000):
 Calls Tryz.prog 96 #[Gq v0 (.slice p1 yl c1) v2 hs v4] w fun e w'=>e= .returned (.bool (sigO hs yl sig))∧Below w.heap.size w w':=by
 have hb1:Below w.heap.size w (w.alloc (.cells #[v0,.slice p1 yl c1,v2,.bool hs,v4] 27)):=(Ag _ w).alloc (Af _) _;have hq4:=hx.below Cc.keeps hb1;obtain⟨p4,c4,rfl,x1,x2,_,hxh⟩:=hq4;have a1:(w.alloc (.cells #[v0,.slice p1 yl c1,v2,.bool hs,.slice p4 sig.length c4] 27)).cell? ⟨w.heap.size,1,none⟩=some (.slice p1 yl c1):=by simp
 have a3:(w.alloc (.cells #[v0,.slice p1 yl c1,v2,.bool hs,.slice p4 sig.length c4] 27)).cell? ⟨w.heap.size,3,none⟩=some (.bool hs):=by simp
 have a4:(w.alloc (.cells #[v0,.slice p1 yl c1,v2,.bool hs,.slice p4 sig.length c4] 27)).cell? ⟨w.heap.size,4,none⟩=some (.slice p4 sig.length c4):=by simp
 have hr:sigO hs yl sig=bif hs then sig.all (fun n=>inR n 0 ((yl:Int) - 1))else(sig.length==0):=rfl
 have HXH:=Aa hxh;have HB1:=Aa hb1;generalize sigO hs yl sig=res at*;have HR:=Aa hr;have hxm:=Aw x1 x2;unfold maxLen at hxm;generalize hxl:sig.length=xl at*;have HXL:=Aa hxl;have kw:IntKind.i64.wrap ((yl:Int) - 1)=(yl:Int) - 1:=Al _ (by omega);clear hx hb1 hxh hr hxl x1 x2;go_enter Tryz.func96,Tryz.ntmps96;go_upto_region 1 with fail
 generalize w.alloc (.cells #[v0,.slice p1 yl c1,v2,.bool hs,.slice p4 xl c4] 27)=W1 at*;cases hs with
 |false=>
  rcases Nat.eq_zero_or_pos xl with h0|h0
  ·subst h0;have hE:Hid (res=true):=Aa (by rw[HR.out];rfl);go_wp2_with fail
   go_ret;rw[hE.out];exact⟨rfl,HB1.out⟩
  ·have hne:((xl:Int)==0)=false:=by simp;omega
   have hE:Hid (res=false):=Aa (by
    rw[HR.out];show(xl==0)=false;simp
    omega)
   go_wp2_with fail
   go_ret;rw[hE.out];exact⟨by trivial,HB1.out⟩
 |true=>
  have hE:Hid (res=sig.all (fun n=>inR n 0 ((yl:Int) - 1))):=Aa (by rw[HR.out];rfl);clear HR;go_wp2_with fail
  go_loop [4,15] (fun r4 r15=>∃(k:Nat),k≤xl∧r15= .int .i64 (k:Int)∧(sig.take k).all (fun n=>inR n 0 ((yl:Int) - 1))=true) (fun _ r15=>xl - (intOf r15).toNat)
  case atStart=>exact⟨0,Ak _,rfl,by simp⟩
  case round=>
   obtain⟨k,hk,rfl,hall⟩:=hrel;have HA:=Aa hall;clear hall;by_cases hlt:k < xl
   ·obtain⟨b,off,m,rfl,hm,x0,_⟩:=HXH.out.at_ (i:=k) (by rw[HXL.out];exact hlt);rw[Nat.mul_one]at x0;have HW:=Aa fun W=>Ek m 0 ((yl:Int) - 1) W;have HT:Hid ((sig.take (k+1)).all (fun n=>inR n 0 ((yl:Int) - 1))=inR m 0 ((yl:Int) - 1)):=Aa (by rw[List.take_add_one,hm,List.all_append,HA.out];simp);have HF:Hid (inR m 0 ((yl:Int) - 1)=false→res=false):=Aa fun h=>by
     rw[hE.out,List.all_eq_false];exact⟨m,Ad hm,by rw[h];simp⟩
    have hJ:(k:Int) < (xl:Int):=by omega
    have k2:(0:Int)≤(k:Int):=by omega
    generalize inR m 0 ((yl:Int) - 1)=q at*;clear hm;go_wp2_with fail
    refine(HW.out _).mono ?_;rintro e w' ⟨rfl,rfl⟩;cases q with
    |false=>
     have hE2:=Aa (HF.out (by trivial));go_wp2_with fail
     go_ret;rw[hE2.out];exact⟨rfl,HB1.out⟩
    |true=>
     go_wp2_with fail
     go_round
     case rel=>exact⟨k+1,hlt,by go_num,HT.out⟩
     case measure=>simp[intOf];omega
   ·obtain rfl:k=xl:=by omega
    have hJ:¬(k:Int) < (k:Int):=by omega
    have hE2:Hid (res=true):=Aa (by rw[hE.out];have:=HA.out;rwa [List.take_of_length_le (by rw[HXL.out];exact Af _)]at this);go_wp2_with fail
    go_ret;rw[hE2.out];exact⟨rfl,HB1.out⟩
end Go.Proofs.YteopgmieindojaaGreat
