/- Parts of a proof. -/
import Derived.Test.YteopgmieindojaaGreatGX10
import Derived.Deep.QuietTactic
import Derived.BigQuiet
import Derived.Deep.DeepCutAuto
import Derived.Deep.RegionHeld
import Derived.Laws.OwnMore
import Derived.Test.YteopgmieindojaaGreatGX01
import Derived.Lib.BytesEntry
import Derived.Laws.Externs
import Derived.Laws.BitsLemmas
import Derived.Test.YteopgmieindojaaGreatGX13
set_option maxRecDepth 1000000
set_option maxHeartbeats 8000000
namespace Go.Proofs.YteopgmieindojaaGreat
open Go.RowKit
theorem Rm{ent:Int}{d:List UInt8}{a:Nat}{l:List PcD}(h:Co true ent d a=(l,a)):∀n,(∀j x,a≤j→j < a+n→d[j]?=some x→x≠0)→Co true ent d (a+n)=(l,a)
 |0,_=>h
 |n+1,hz=>by
  have ih:=Rm h n fun j x h1 h2 h3=>hz j x h1 (by omega) h3;cases hx:d[a+n]? with
  |none=>
   show(match d[a+n]? with|none=>_|some x=>_)=_;rw[hx];exact ih
  |some x=>
   refine Qq ih hx ?_;have:=hz _ x (by omega) (by omega) hx;show(x==0)=false;simpa using this
theorem Jfm{ent:Int}{d:List UInt8}{a k:Nat}{l:List PcD}(h:Co true ent d a=(l,a))(hz:∀(i:Nat)(y:UInt8),i < k→(d.drop a)[i]?=some y→y≠0)(h0:(d.drop a)[k]?=some 0):
 Co true ent d (a+(k+1))=(l++ [⟨(a:Int),(k:Int)+1⟩],a+(k+1)):=by
 rw[List.getElem?_drop]at h0;have:=Pm (Rm h k fun j x h1 h2 h3=>hz (j - a) x (by omega) (by rw[List.getElem?_drop,show a+(j - a)=j by omega];exact h3)) h0 rfl;rw[show((a+k:Nat):Int)+1 - (a:Int)=(k:Int)+1 by omega]at this;exact this
theorem Jhn{ent:Int}{d:List UInt8}{a:Nat}{l:List PcD}(h:Co true ent d a=(l,a))(ha:a≤d.length)(hz:∀(i:Nat)(y:UInt8),(d.drop a)[i]?=some y→y≠0):(Co true ent d d.length).1=l:=by
 have:=Rm h (d.length - a) fun j x h1 h2 h3=>hz (j - a) x (by rw[List.getElem?_drop,show a+(j - a)=j by omega];exact h3);rw[show a+(d.length - a)=d.length by omega]at this;rw[this]
def Ka(ent m:Nat):List PcD:=(List.range m).map fun i=>⟨((i*ent:Nat):Int),(ent:Int)⟩
theorem Pa(ent m:Nat):(Ka ent m).length=m:=by simp[Ka]
theorem Wf(ent m:Nat):Ka ent (m+1)=Ka ent m++ [⟨((m*ent:Nat):Int),(ent:Int)⟩]:=by simp[Ka,List.range_succ]
theorem Tu{ent a:Nat}{d:List UInt8}{l:List PcD}(h:Co false (ent:Int) d a=(l,a)):∀n,n < ent→Co false (ent:Int) d (a+n)=(l,a)
 |0,_=>h
 |n+1,hn=>by
  have ih:=Tu h n (by omega);cases hx:d[a+n]? with
  |none=>
   show(match d[a+n]? with|none=>_|some x=>_)=_;rw[hx];exact ih
  |some x=>
   refine Qq ih hx ?_;show((((a+n:Nat):Int)+1 - (a:Int))==(ent:Int))=false;simp;omega
theorem Yw{ent:Nat}(h1:1≤ent){d:List UInt8}:∀m,m*ent≤d.length→Co false (ent:Int) d (m*ent)=(Ka ent m,m*ent)
 |0,_=>by rw[Nat.zero_mul];rfl
 |m+1,hm=>by
  rw[Nat.succ_mul]at hm;have ih:=Tu (Yw (d:=d) h1 m (by omega)) (ent - 1) (by omega);have hx:d[m*ent+(ent - 1)]?=some d[m*ent+(ent - 1)]:=Ae (by omega)
  have:=Pm ih hx (by
   show((((m*ent+(ent - 1):Nat):Int)+1 - ((m*ent:Nat):Int))==(ent:Int))=true;simp
   omega)
  rw[show m*ent+(ent - 1)+1=(m+1)*ent by rw[Nat.succ_mul];omega,show((m*ent+(ent - 1):Nat):Int)+1 - ((m*ent:Nat):Int)=(ent:Int) by omega]at this;rw[this,Wf]
def Nv(ent m k:Nat):List Value:=pcV (Ka ent k)++List.replicate ((m - k)*2) (.int .i64 0)
theorem Jfy{ent m k:Nat}(hk:k≤m):(Nv ent m k).length=m*2:=by
 simp[Nv,Su,Pa];omega
theorem Jjz(ent m:Nat):Nv ent m m=pcV (Ka ent m):=by simp[Nv]
theorem Jlh(ent m:Nat):Nv ent m 0=List.replicate (m*2) (.int .i64 0):=by simp[Nv,Ka,pcV]
theorem Jkn{ent m k:Nat}(hk:k < m):((Nv ent m k).set (k*2) (.int .i64 ((k*ent:Nat):Int))).set (k*2+1) (.int .i64 (ent:Int))=Nv ent m (k+1):=by
 have hl:(pcV (Ka ent k)).length=k*2:=by rw[Su,Pa]
 unfold Nv
 rw[Wf,Pr,List.set_append_right _ _ (by omega),hl,Nat.sub_self,show(m - k)*2=(m - (k+1))*2+1+1 by omega,List.replicate_succ,List.replicate_succ,List.set_cons_zero,
  List.set_append_right _ _ (by omega),hl,show k*2+1 - k*2=1 by omega,List.set_cons_succ,List.set_cons_zero,List.append_assoc]
 rfl
theorem Jb5(m:Nat):(madeCells #[.int .i64 0,.int .i64 0] (m*2)).toList=List.replicate (m*2) (Value.int .i64 0):=by
 apply List.ext_getElem?;intro j;by_cases hj:j < m*2
 ·have:j % 2=0∨j % 2=1:=by omega
  rcases this with h|h<;>simp[madeCells,hj,h]
 ·simp[madeCells,hj]
theorem Wt{l:List PcD}(h:∀p∈l,0≤p.size)(i:Nat):∀j,i≤j→Fr (l.take i)≤Fr (l.take j)
 |0,hj=>by
  obtain rfl:i=0:=by omega
  exact Int.le_refl _
 |j+1,hj=>by
  by_cases hij:i=j+1
  ·subst hij;exact Int.le_refl _
  ·have ih:=Wt h i j (by omega);cases hx:l[j]? with
   |none=>rw[List.take_add_one,hx];simpa using ih
   |some p=>
    rw[Hs hx];have:=h p (Ad hx);omega
theorem Jmz{l:List PcD}{n at_:Int}(hc:Pj l n)(hb:∀p∈l,0≤p.at_∧0≤p.size∧p.at_+p.size≤n):
 ∃k:Nat,k≤l.length∧(∀(j:Nat) p,l[j]?=some p→decide (at_ < p.at_+p.size)=decide (k≤j))∧
 ((∃p,l[k]?=some p∧p.at_≤at_∧inP l at_=(k:Int))∨
   ((∀p,l[k]?=some p→¬p.at_≤at_)∧
     ((∃p,l[l.length - 1]?=some p∧at_=p.at_+p.size∧inP l at_=(l.length:Int) - 1)∨
      ((∀p,l[l.length - 1]?=some p→at_≠p.at_+p.size)∧inP l at_= -1)))):=by
 have hbs:∀p∈l,0≤p.size:=fun p hp=>(hb p hp).2.1;by_cases hl:l.length=0
 ·have hn:∀(j:Nat) p,l[j]?=some p→False:=fun j p hp=>by have:=(Ab.1 hp).1;omega
  exact⟨0,Ak _,fun j p hp=>(hn j p hp).elim,.inr ⟨fun p hp=>(hn _ p hp).elim,.inr ⟨fun p hp=>(hn _ p hp).elim,Zv hb (.inr (.inr hl))⟩⟩⟩
 by_cases h0:at_ < 0
 ·refine⟨0,Ak _,fun j p hp=>?_,.inr ⟨fun p hp=>?_,.inr ⟨fun p hp=>?_,Zv hb (.inl h0)⟩⟩⟩<;>have:=hb p (Ad hp)
  ·rw[Aj (show at_ < p.at_+p.size by omega),Aj (Ak j)]
  ·omega
  ·omega
 by_cases h1:n < at_
 ·refine⟨l.length,Af _,fun j p hp=>?_,.inr ⟨fun p hp=>?_,.inr ⟨fun p hp=>?_,Zv hb (.inr (.inl h1))⟩⟩⟩<;>have:=hb p (Ad hp)<;>have hj:=(Ab.1 hp).1
  ·rw[Ai (show¬at_ < p.at_+p.size by omega),Ai (show¬l.length≤j by omega)]
  ·omega
  ·omega
 obtain⟨i,p,g1,g2,g3,g4,g5⟩:=Jre hc (by omega) (by omega:at_≤n) (by omega);have hpi:=(hc.2 i p g3).1;have hpe:=Hs g3;by_cases h2:at_ < p.at_+p.size
 ·refine⟨i,by omega,fun j q hq=>?_,.inl ⟨p,g3,g4,g1⟩⟩;have hqi:=(hc.2 j q hq).1;have hqe:=Hs hq;by_cases hij:i≤j
  ·have:=Wt hbs (i+1) (j+1) (by omega);rw[Aj (show at_ < q.at_+q.size by omega),Aj hij]
  ·have:=Wt hbs (j+1) i (by omega);rw[Ai (show¬at_ < q.at_+q.size by omega),Ai hij]
 ·obtain⟨e1,e2⟩:at_=n∧(i:Int)=(l.length:Int) - 1:=by
   rcases g5 with g5|g5
   ·exact absurd g5 h2
   ·exact g5
  have e3:i=l.length - 1:=by omega
  have hn:Fr (l.take (i+1))=n:=by rw[show i+1=l.length by omega,List.take_length,hc.1]
  refine⟨l.length,Af _,fun j q hq=>?_,.inr ⟨fun q hq=>?_,.inl ⟨p,by rw[←e3];exact g3,by omega,by omega⟩⟩⟩
  ·have hj:=(Ab.1 hq).1;have:=hb q (Ad hq);rw[Ai (show¬at_ < q.at_+q.size by omega),Ai (show¬l.length≤j by omega)]
  ·have hj:=(Ab.1 hq).1;omega
theorem Jdv{l:List UInt8}{c:UInt8}(h:∀(i:Nat)(y:UInt8),l[i]?=some y→y≠c):Lib.indexByte l c= -1:=by
 induction l with
 |nil=>rfl
 |cons x r ih=>
  have hx:(x==c)=false:=by rw[beq_eq_false_iff_ne];exact h 0 x rfl
  have:=ih fun i y hy=>h (i+1) y (by simpa using hy);simp[Lib.indexByte,hx,this]
theorem Wr{c:UInt8}:∀{l:List UInt8}{k:Nat},(∀(i:Nat)(y:UInt8),i < k→l[i]?=some y→y≠c)→l[k]?=some c→Lib.indexByte l c=k
 | [],_,_,h=>by simp at h
 |x::r,0,_,h=>by
  simp at h;simp[Lib.indexByte,h]
 |x::r,k+1,hb,h=>by
  have hx:(x==c)=false:=by rw[beq_eq_false_iff_ne];exact hb 0 x (by omega) rfl
  have:=Wr (c:=c) (l:=r) (k:=k) (fun i y hi hy=>hb (i+1) y (by omega) (by simpa using hy)) (by simpa using h);have h2:((k:Int)== -1)=false:=by rw[beq_eq_false_iff_ne];omega
  simp[Lib.indexByte,hx,this,h2]
theorem Wz(c:UInt8):∀l:List UInt8,(∃k:Nat,l[k]?=some c∧∀(i:Nat)(y:UInt8),i < k→l[i]?=some y→y≠c)∨∀(i:Nat)(y:UInt8),l[i]?=some y→y≠c
 | []=> .inr fun i y h=>by simp at h
 |x::r=>by
  by_cases hx:x=c
  ·exact .inl ⟨0,by simp[hx],fun i y hi=>absurd hi (by omega)⟩
  ·rcases Wz c r with⟨k,h1,h2⟩|h
   ·refine .inl ⟨k+1,by simpa using h1,fun i y hi hy=>?_⟩
    match i,hy with
    |0,hy=>simp at hy;exact hy▸hx
    |i+1,hy=>exact h2 i y (by omega) (by simpa using hy)
   ·refine .inr fun i y hy=>?_
    match i,hy with
    |0,hy=>simp at hy;exact hy▸hx
    |i+1,hy=>exact h i y (by simpa using hy)
theorem Jef(l:List UInt8):Lib.bytesOf (l.map fun x=>(x.toNat:Int))=l:=by
 simp[Lib.bytesOf,List.map_map,Function.comp_def]
theorem Jpn{P:Program}{w:World}{b off:Nat}{l:List UInt8}(h:Has w (some ⟨b,off,none⟩) l)(n cap:Nat)(hn:l.length=n)(c:Int):
 (Extern.BytealgIndexByte.indexByte #[.slice (some ⟨b,off,none⟩) n cap,.int .u8 c]).run P w= .ok (.int .i64 (Lib.indexByte l c.toNat.toUInt8)) w:=by
 have:=Lib.run_indexByteSlice (P:=P) w b off n cap (l.map fun x=>(x.toNat:Int)) (by simpa using hn) (fun i hi=>by
  obtain⟨a,e,hc⟩:=h i l[i] (Ae (by omega));cases e;have ha:(⟨b,off,none⟩:Addr).add i=⟨b,off+i,none⟩:=by unfold Addr.add;split<;>simp_all
  rw[ha]at hc;rw[hc]
  simp[List.getD,Ae (show i < l.length by omega)]) c
 rwa [Jef]at this
theorem Jn7(s:ByteArray)(c:Int)(w:World):
 Calls Tryz.prog 223 #[.string s,.int .u8 c] w fun e w'=>e= .returned (.int .i64 (Lib.indexByte s.data.toList c.toNat.toUInt8))∧w=w':=by
 go_enter Tryz.func223,Tryz.ntmps223;go_wp2_with fail
 rw[run_callFunc_extern Tryz.func229 (by kernel_rfl) (by kernel_rfl) (by kernel_rfl) (e:=Extern.BytealgIndexByte.indexByte) (by kernel_rfl),Lib.run_indexByteString];simp only[Result.andThen];rw[Oper.upon_value];go_wp2_with fail
 go_ret;exact⟨rfl,rfl⟩
theorem Jhz(s:ByteArray)(c:Int)(w:World):
 Calls Tryz.prog 210 #[.string s,.int .u8 c] w fun e w'=>e= .returned (.int .i64 (Lib.indexByte s.data.toList c.toNat.toUInt8))∧w=w':=by
 have HC:=Aa (Jn7 s c w);go_enter Tryz.func210,Tryz.ntmps210;go_wp2_with fail
 refine HC.out.mono ?_;rintro e w' ⟨rfl,rfl⟩;go_wp2_with fail
 go_ret;exact⟨rfl,rfl⟩
def hasO(fl k:Int):Bool:=bits .and .i64 fl k != 0
theorem Jbg(n:Int)(h₀:0≤n)(h₁:n < 2 ^ 63):IntKind.i64.wrap n=n:=by
 rw[IntKind.wrap_i64];have:(2:Int) ^ 63=9223372036854775808:=by decide
 omega
theorem Ld{fl:Int}(j:Nat)(hj:j < 63)(h0:0≤fl)(h1:fl≤9223372036854775807):hasO fl (2 ^ j)=hasF fl (2 ^ j):=by
 obtain⟨a,rfl⟩:=Au h0;have ha:a < 2 ^ 63:=by
  have:(2:Nat) ^ 63=9223372036854775808:=by decide
  omega
 have hk:(2:Nat) ^ j < 2 ^ 63:=Nat.pow_lt_pow_right (by omega) hj;have hb:=(bits_nat .i64 63 (by decide) Jbg a (2 ^ j) ha hk).1;have e2:((2 ^ j:Nat):Int)=(2:Int) ^ j:=by push_cast;rfl
 rw[e2]at hb;unfold hasO hasF;rw[hb,Aj h0,Bool.true_and];have hd:((a:Int) / 2 ^ j).tmod 2=((a / 2 ^ j % 2:Nat):Int):=by
  rw[←e2,←Int.natCast_ediv,Int.tmod_eq_emod_of_nonneg (Int.natCast_nonneg (a / 2 ^ j))];rfl
 rw[hd];have htb:=Nat.testBit_eq_decide_div_mod_eq (x:=a) (i:=j);cases hb2:a.testBit j with
 |true=>
  rw[hb2]at htb;have h1:a / 2 ^ j % 2=1:=of_decide_eq_true htb.symm;have h2:(a&&& 2 ^ j).testBit j=true:=by rw[Nat.testBit_and,hb2,Nat.testBit_two_pow];simp
  have h3:a&&& 2 ^ j≠0:=fun e=>by rw[e]at h2;simp at h2
  have h4:((a&&& 2 ^ j:Nat):Int)≠0:=by omega
  rw[h1];simpa using h4
 |false=>
  rw[hb2]at htb;have h1:¬a / 2 ^ j % 2=1:=of_decide_eq_false htb.symm;have h2:a / 2 ^ j % 2=0:=by omega
  have h3:a&&& 2 ^ j=0:=Nat.eq_of_testBit_eq fun i=>by
   rw[Nat.testBit_and,Nat.testBit_two_pow,Nat.zero_testBit];by_cases h:j=i
   ·subst h;rw[hb2];rfl
   ·simp[h]
  rw[h2,h3];rfl
theorem Tryz.infoPiece:(Tryz.prog.info? 213).map (fun i=>(i.zero,i.size,i.bytes))=some (some (.agg #[.int .i64 0,.int .i64 0]),2,16):=by kernel_rfl
theorem Jly{w:World}{p:Option Addr}{l:List UInt8}(h:Has w p l)(n cap:Nat)(hn:l.length=n)(hp:p=none→n=0)(c:Int):
 Calls Tryz.prog 206 #[.slice p n cap,.int .u8 c] w fun e w'=>e= .returned (.int .i64 (Lib.indexByte l c.toNat.toUInt8))∧w=w':=by
 have hr:(Extern.BytealgIndexByte.indexByte #[.slice p n cap,.int .u8 c]).run Tryz.prog w= .ok (.int .i64 (Lib.indexByte l c.toNat.toUInt8)) w:=by
  rcases p with _|⟨b,off,spot⟩
  ·obtain rfl:=hp rfl;obtain rfl:l= []:=List.eq_nil_of_length_eq_zero hn;rfl
  ·rcases Nat.eq_zero_or_pos n with h0|h0
   ·subst h0;obtain rfl:l= []:=List.eq_nil_of_length_eq_zero hn;rfl
   ·obtain⟨b',off',e,_⟩:=h.plain (by omega);cases e;exact Jpn h n cap hn c
 have HR:=Aa hr;clear hr;go_enter Tryz.func206,Tryz.ntmps206;go_wp2_with fail
 rw[run_callFunc_extern Tryz.func222 (by kernel_rfl) (by kernel_rfl) (by kernel_rfl) (e:=Extern.BytealgIndexByte.indexByte) (by kernel_rfl),HR.out];simp only[Result.andThen];rw[Oper.upon_value];go_wp2_with fail
 go_ret;exact⟨rfl,rfl⟩
theorem Jnh{w:World}{dp:Option Addr}{d:List UInt8}{dc a:Nat}(h:Has w dp d)(hl:d.length≤dc)(ha:a≤d.length)(hn:dp=none→dc=0):
 Has w (if dc=a then dp else dp.map (·.add a)) (d.drop a)∧((if dc=a then dp else dp.map (·.add a))=none→d.length - a=0):=by
 refine⟨by have:=h.cut a d.length dc (Af _) hl;rwa [List.take_length]at this,fun e=>?_⟩;split at e
 ·omega
 ·rw[Option.map_eq_none_iff]at e;have:=hn e;omega
theorem Zk(ent:Int)(d:List UInt8)(dp:Option Addr)(dc:Nat)(w:World)(hd:Has w dp d)(h1:d.length≤dc)(_h2:dc≤maxLen)(h3:dp=none→dc=0)(hdl:d.length≤100000):
 Calls Tryz.prog 196 #[.slice dp d.length dc] w (Me 213 (Co true ent d d.length).1 w):=by
 obtain⟨i0,hi,hz0,hz1,hz2⟩:=info_parts Tryz.infoPiece;have HI:=Aa hi;have H0:=Aa hz0;have H1:=Aa hz1;have H2:=Aa hz2;have HC:=Aa fun W (hb:Below w.heap.size w W)(a:Nat)(ha:a≤d.length)=>Jnh (hd.below hb) h1 ha h3;generalize hdln:d.length=dl at*;have HDL:=Aa hdln;clear hi hz0 hz1 hz2 hd hdln;go_enter Tryz.func196,Tryz.ntmps196;go_wp2_with fail
 go_loopw [3,4] (fun r3 r4 wr=>∃(a:Nat)(l:List PcD),a≤dl∧r4= .int .i64 (a:Int)∧Co true ent d a=(l,a)∧l.length≤a∧wr.ownsRow w.heap.size 213 2 r3 l.length (pcV l)∧Below w.heap.size w wr) (fun _ r4 _=>dl - (intOf r4).toNat)
 case atStart=>exact⟨0, [],Ak _,rfl,rfl,Af _,Aq _ _ _ _,Ag _ _⟩
 case round=>
  obtain⟨a,l,ha,rfl,hst,hla,hown,hb⟩:=hrel;obtain⟨hc1,hc2⟩:=HC.out wr hb a ha;have HST:=Aa hst;have hI:(a:Int)≤(dc:Int):=by omega
  have hI2:(a:Int)≤(dl:Int):=by omega
  have hI3:(0:Int)≤(a:Int):=by omega
  have hq:(d.drop a).length=dl - a:=by rw[List.length_drop,HDL.out]
  have hB:=Jly hc1 (dl - a) (dc - a) hq hc2 0;clear hst;rcases Wz 0 (d.drop a)with⟨k,hk0,hkz⟩|hz
  ·have hix:Lib.indexByte (d.drop a) (Int.toNat 0).toUInt8=k:=Wr (c:=0) hkz hk0;have hkl:k < dl - a:=by have:=(Ab.1 hk0).1;omega
   have hne:¬dc=a:=by omega
   rw[hix,if_neg hne]at hB;have HB:=Aa hB;have HN:=Aa (Jfm HST.out hkz hk0);have k1:IntKind.i64.wrap ((k:Int)+1)=(k:Int)+1:=Al _ (by omega);have k2:IntKind.i64.wrap ((a:Int)+((k:Int)+1))=(a:Int)+((k:Int)+1):=Al _ (by omega);have k3:(((k:Int)+1)==0)=false:=by simp;omega
   have HGO:Hid (∀(v':Value)(w':World),w'.ownsRow w.heap.size 213 2 v' (l.length+1) (pcV l++ [.int .i64 (a:Int),.int .i64 ((k:Int)+1)])→w'.ownsRow w.heap.size 213 2 v' (l++ [PcD.mk (a:Int) ((k:Int)+1)]).length (pcV (l++ [PcD.mk (a:Int) ((k:Int)+1)]))):=Aa fun v' w' h=>by
    rw[Pr,List.length_append];exact h
   clear hB hix hk0 hkz hq hc1 hc2;go_wp2_with fail
   refine HB.out.mono ?_;rintro e w' ⟨rfl,rfl⟩;clear HB;go_wp2_with (at_builtin;refine wpList_append_own _ rfl (.tmp 14) (.tmp 18) 209 rfl w.heap.size 213 i0 (.agg #[.int .i64 0,.int .i64 0]) 2 16 Tryz.underlying209 HI.out H0.out H1.out H2.out rfl (by decide) _ _ _ rfl (hown.alloc _) ⟨wr.heap.size,0,none⟩ 1 1 [.int .i64 (a:Int),.int .i64 ((k:Int)+1)] rfl rfl (Rs wr _ _ _) (Uc _ _) (by unfold maxLen;omega) (by omega) (by have:=hb.size;simp;omega) ?_)
   intro v1 w4 hown4 hgrow4 _;have hb4:Below w.heap.size w w4:=(hb.alloc hb.size _).grown hgrow4 (by have:=hb.size;simp;omega) (fun g hg=>(hown.lt g hg).1);have hown5:=HGO.out _ _ hown4;clear hgrow4 hown4 hown hb;go_wp2_with fail
   go_roundw
   case rel=>exact⟨a+(k+1),_,by omega,by go_num,HN.out,by simp;omega,hown5,hb4⟩
   case measure=>simp[intOf];omega
  ·have hix:Lib.indexByte (d.drop a) (Int.toNat 0).toUInt8= -1:=Jdv (c:=0) hz;have HE:Hid ((Co true ent d dl).1=l):=Aa (by rw[←HDL.out];exact Jhn HST.out (by rw[HDL.out];exact ha) hz);by_cases hda:dc=a
   ·subst hda;rw[hix,if_pos rfl,Nat.sub_self,show dl - dc=0 by omega]at hB;have HB:=Aa hB;clear hB hix hz hq hc1 hc2;go_wp2_with fail
    refine HB.out.mono ?_;rintro e w' ⟨rfl,rfl⟩;clear HB;go_wp2_with fail
    go_ret;rw[HE.out];exact⟨_,rfl,hown,hb⟩
   ·rw[hix,if_neg hda]at hB;have HB:=Aa hB;clear hB hix hz hq hc1 hc2;go_wp2_with fail
    refine HB.out.mono ?_;rintro e w' ⟨rfl,rfl⟩;clear HB;go_wp2_with fail
    go_ret;rw[HE.out];exact⟨_,rfl,hown,hb⟩
theorem Jag(ent m:Nat)(dp:Option Addr)(dc:Nat)(w:World)(he:1≤ent)(hm:m*ent≤100000):
 Calls Tryz.prog 197 #[.slice dp (m*ent) dc,.int .i64 (ent:Int)] w (Me 213 (Ka ent m) w):=by
 obtain⟨i0,hi,hz0,hz1,hz2⟩:=info_parts Tryz.infoPiece;have hme:m≤m*ent:=Nat.le_mul_of_pos_right _ (by omega)
 have hdiv:((m*ent:Nat):Int).tdiv (ent:Int)=(m:Int):=(by
  rw[Int.natCast_mul]
  exact Int.mul_tdiv_cancel _ (by omega))
 have hb8:i0.bytes*m≤281474976710656:=by rw[hz2];omega
 have HI:=Aa hi;have H0:=Aa hz0;have H1:=Aa hz1;have h1:¬(ent:Int)≤0:=by omega
 have h2:((ent:Int)==0)=false:=by simp;omega
 have HK:=Aa fun k (hk:k < m)=>show(k:Int)*(ent:Int)=((k*ent:Nat):Int)∧k*ent≤100000 from⟨by simp,by have:=Nat.mul_le_mul_right ent (show k≤m by omega);omega⟩
 clear hi hz0 hz1 hz2;have hm0:IntKind.i64.wrap (m:Int)=(m:Int):=Al _ (by omega);generalize hme2:m*ent=me at*;clear hme2;go_enter Tryz.func197,Tryz.ntmps197;go_wp2_with (at_make;refine wpList_make_full _ rfl _ _ 209 rfl w.heap.size 213 i0 (.agg #[.int .i64 0,.int .i64 0]) 2 Tryz.underlying209 HI.out H0.out H1.out _ _ _ _ m rfl rfl rfl rfl hb8 (by unfold maxLen;omega) (Af _) ?_)
 intro w1 hown hgrow;have hbel:Below w.heap.size w w1:=(Ag _ w).grown hgrow (Af _) (fun k h=>by cases h);have hown0:w1.ownsRow w.heap.size 213 2 (.slice (some ⟨w.heap.size,0,none⟩) m m) m (Nv ent m 0):=by
  rw[Jlh,←Jb5];exact hown
 clear hown hgrow hdiv;go_wp2_with fail
 go_loopw [6,16] (fun _ i wr=>∃k:Nat,k≤m∧i= .int .i64 k∧wr.ownsRow w.heap.size 213 2 (.slice (some ⟨w.heap.size,0,none⟩) m m) m (Nv ent m k)∧Below w.heap.size w wr) (fun _ i _=>m - (intOf i).toNat)
 case atStart=>exact⟨0,Ak _,rfl,hown0,hbel⟩
 case round=>
  obtain⟨k,hk,rfl,hown,hb⟩:=hrel;clear hown0 hbel;by_cases hlt:k < m
  ·have hl:=Jfy (ent:=ent) hk;obtain⟨v0,hv0⟩:∃v,(Nv ent m k)[k*2]?=some v:=⟨_,Ae (by omega)⟩
   obtain⟨v1,hv1⟩:∃v,(Nv ent m k)[k*2+1]?=some v:=⟨_,Ae (by omega)⟩
   have c0:wr.cell? ⟨w.heap.size,k*2,none⟩=some v0:=(hown.cellAt _ (by omega)).trans hv0;have c1:wr.cell? ⟨w.heap.size,k*2+1,none⟩=some v1:=(hown.cellAt _ (by omega)).trans hv1;have f0:=hown.frozenAt (k*2);have f1:=hown.frozenAt (k*2+1);have hst1:=(hown.stored (k*2) (.int .i64 ((k*ent:Nat):Int))).1;have hst2:=(hst1.stored (k*2+1) (.int .i64 (ent:Int))).1;rw[Jkn hlt]at hst2;have HS:=Aa hst2;obtain⟨q1,q2⟩:=HK.out k hlt;have kw:IntKind.i64.wrap ((k:Int)*(ent:Int))=((k*ent:Nat):Int):=by rw[q1];exact Al _ (by omega)
   have hJ:(k:Int) < (m:Int):=by omega
   clear hst1 hst2 hv0 hv1 hl q1;go_wp2_with fail
   go_roundw
   case rel=>exact⟨k+1,hlt,by go_num,HS.out,(hb.setCell (Af _) _).setCell (Af _) _⟩
   case measure=>simp[intOf];omega
  ·have hkn:k=m:=by omega
   have HK:=Aa hkn;have hJ:¬(k:Int) < (m:Int):=by omega
   clear hkn;go_wp2_with fail
   go_ret;refine⟨_,rfl,?_,hb⟩;rw[Pa,←Jjz];rw[HK.out]at hown;exact hown
theorem Me.toP{T:TypeId}{l:List PcD}{w w1 w':World}{e:Ending}(hb:Below w.heap.size w w1)(h:Me T l w1 e w'):Me T l w e w':=by
 obtain⟨v,rfl,ho,hb2⟩:=h;exact⟨v,rfl,Cm ho hb.size,hb.trans (hb2.mono hb.size)⟩
theorem Jhg(s:Ca)(dp:Option Addr)(dc:Nat)(vr:Value)(w:World)(hd:Bg 1 Ds w dp s.data)(h1:s.data.length≤dc)(h2:dc≤maxLen)(h3:dp=none→dc=0)(hbd:Jca s)(hf:Mr s)(h4:s.data.length≤100000):
 Calls Tryz.prog 163 #[Ji6 s (.slice dp s.data.length dc) vr] w (Me 213 (piecesOf s) w):=by
 have hfl:=hf.2.2.2;have hb1:Below w.heap.size w (w.alloc (.cells #[.string s.name,.int .i64 s.type,.int .i64 s.flags,.int .i64 s.align,.int .i64 s.ent,.int .i64 s.link,.int .i64 s.size,.slice dp s.data.length dc,vr] 89)):=(Ag _ w).alloc (Af _) _;have hcell:∀i v,(#[.string s.name,.int .i64 s.type,.int .i64 s.flags,.int .i64 s.align,.int .i64 s.ent,.int .i64 s.link,.int .i64 s.size,.slice dp s.data.length dc,vr]:Array Value)[i]?=some v→(w.alloc (.cells #[.string s.name,.int .i64 s.type,.int .i64 s.flags,.int .i64 s.align,.int .i64 s.ent,.int .i64 s.link,.int .i64 s.size,.slice dp s.data.length dc,vr] 89)).cell? ⟨w.heap.size,i,none⟩=some v:=fun i v hv=>
  (Am _ w.heap.size i _ 89 (0,0) (Ah w _)).trans hv
 have a2:=hcell 2 _ rfl;have a4:=hcell 4 _ rfl;have a6:=hcell 6 _ rfl;have a7:=hcell 7 _ rfl;have hQ:=fun(T:TypeId)(w1:World)(hx:Below w.heap.size w w1) e w' (h:Me T (piecesOf s) w1 e w')=>Me.toP hx h;have hST:=Zk s.ent s.data dp dc _ (hd.below Ds.keeps hb1).has h1 h2 h3 (by omega);have hEN:∀m:Nat,1≤s.ent→s.data.length=m*s.ent.toNat→Calls Tryz.prog 197 #[.slice dp s.data.length dc,.int .i64 s.ent] (w.alloc (.cells #[.string s.name,.int .i64 s.type,.int .i64 s.flags,.int .i64 s.align,.int .i64 s.ent,.int .i64 s.link,.int .i64 s.size,.slice dp s.data.length dc,vr] 89)) (Me 213 (Ka s.ent.toNat m) (w.alloc (.cells #[.string s.name,.int .i64 s.type,.int .i64 s.flags,.int .i64 s.align,.int .i64 s.ent,.int .i64 s.link,.int .i64 s.size,.slice dp s.data.length dc,vr] 89))):=fun m he hm=>by
  have:=Jag s.ent.toNat m dp dc (w.alloc (.cells #[.string s.name,.int .i64 s.type,.int .i64 s.flags,.int .i64 s.align,.int .i64 s.ent,.int .i64 s.link,.int .i64 s.size,.slice dp s.data.length dc,vr] 89)) (by omega) (by omega);rw[←hm,show((s.ent.toNat:Nat):Int)=s.ent by omega]at this;exact this
 have hk16:(bits .and .i64 s.flags 16==0)= !hasF s.flags 16:=by
  have:=Ld 4 (by omega) hfl hbd.1.2;unfold hasO at this;rw[show(2:Int) ^ 4=16 by decide]at this;rw[←this];unfold bne;rw[Bool.not_not]
 have hk32:(bits .and .i64 s.flags 32 != 0)=hasF s.flags 32:=by
  have:=Ld 5 (by omega) hfl hbd.1.2;unfold hasO at this;rw[show(2:Int) ^ 5=32 by decide]at this;exact this
 have HQ:=Aa hQ;have HEN:=Aa hEN;cases hq:hasF s.flags 16 with
 |false=>
  rw[hq]at hk16;have HP:Hid (piecesOf s= [⟨0,s.size⟩]):=Aa (by unfold piecesOf;rw[hq];rfl);clear hST hEN hQ hk32 hcell hq HEN;go_enter Tryz.func163,Tryz.ntmps163;go_upto_region 1 with fail
  generalize w.alloc (.cells #[.string s.name,.int .i64 s.type,.int .i64 s.flags,.int .i64 s.align,.int .i64 s.ent,.int .i64 s.link,.int .i64 s.size,.slice dp s.data.length dc,vr] 89)=W1 at*;go_wp2_with fail
  go_ret;refine HQ.out 213 _ hb1 _ _ ?_;rw[HP.out];exact⟨_,rfl,World.ownsRow_lit _ #[.int .i64 0,.int .i64 s.size] 1 (Af _) (by unfold maxLen;omega) rfl,(Ag _ _).alloc (Af _) _⟩
 |true=>
  rw[hq]at hk16;cases h32:hasF s.flags 32 with
  |true=>
   rw[h32]at hk32;have HP:Hid (piecesOf s=(Co true s.ent s.data s.data.length).1):=Aa (by unfold piecesOf;rw[hq,h32];rfl);have HST:=Aa hST;clear hST hEN hQ hcell hq h32;generalize s.data.length=dl at*;go_enter Tryz.func163,Tryz.ntmps163;go_wp2_with fail
   refine HST.out.mono ?_;rintro e w' ⟨v,rfl,ho,hb2⟩;go_wp2_with fail
   go_ret;refine HQ.out 213 _ hb1 _ _ ?_;rw[HP.out];exact⟨_,rfl,ho,hb2⟩
  |false=>
   rw[h32]at hk32;have he:=(hf.2.1 hq).2.2.2;obtain⟨he1,he2⟩:=he h32;rw[(hf.2.1 hq).1]at he2;obtain⟨m,hm⟩:∃m:Nat,s.data.length=m*s.ent.toNat:=by
    obtain⟨q,hq2⟩:=he2;have hq0:0≤q:=by
     by_cases h:0≤q
     ·exact h
     ·have:=Int.mul_neg_of_pos_of_neg (show 0 < s.ent by omega) (show q < 0 by omega);omega
    refine⟨q.toNat,?_⟩;have e1:(s.ent.toNat:Int)=s.ent:=by omega
    have e2:(q.toNat:Int)=q:=by omega
    have:((q.toNat*s.ent.toNat:Nat):Int)=(s.data.length:Int):=by rw[Int.natCast_mul,e1,e2,hq2,Int.mul_comm]
    omega
   have HP:Hid (piecesOf s=Ka s.ent.toNat m):=Aa (by
    unfold piecesOf;rw[hq,h32];have:=Yw (ent:=s.ent.toNat) (d:=s.data) (by omega) m (by omega);rw[show((s.ent.toNat:Nat):Int)=s.ent by omega,←hm]at this;rw[this]
    rfl)
   have HST:=Aa (HEN.out m he1 hm);clear hST hEN hQ hcell hq h32 HEN he2 hm he;generalize s.data.length=dl at*;go_enter Tryz.func163,Tryz.ntmps163;go_wp2_with fail
   refine HST.out.mono ?_;rintro e w' ⟨v,rfl,ho,hb2⟩;go_wp2_with fail
   go_ret;refine HQ.out 213 _ hb1 _ _ ?_;rw[HP.out];exact⟨_,rfl,ho,hb2⟩
theorem Jl9{s:Ca}(hf:Mr s)(hb:Jca s):(bits .and .i64 s.flags 2==0)= !hasF s.flags 2:=by
 have:=Ld 1 (by omega) hf.2.2.2 hb.1.2;unfold hasO at this;rw[show(2:Int) ^ 1=2 by decide]at this;rw[←this];unfold bne;rw[Bool.not_not]
theorem Jhe(p pd pf:Option Addr)(c cd nf cf g0:Nat)(l:List Az)(D:List (List Bool))(vs:List Value)(w0 w:World)(h:Bg 5 Cg w0 p l)(hok:∀o∈l,OkD o)(hsg:Gi l)(hlc:l.length≤1000)(hD:Er w0 pd l D)(hb0:Below w0.heap.size w0 w)(hm:Dr w0.heap.size w g0 vs l Re l.length):
 Calls Tryz.prog 112 #[.agg #[.slice p l.length c,.slice pd D.length cd,.slice pf nf cf,Dt g0 l.length]] w fun e w'=>e= .returned (.tuple #[])∧Dr w0.heap.size w' g0 vs l (Gl l D l.length 0) l.length∧FrT w0.heap.size [211] w w':=by
 rw[←Jc2 l D]at hm;have ha:Below w.heap.size w (w.alloc (.cells #[.slice p l.length c,.slice pd D.length cd,.slice pf nf cf,Dt g0 l.length] 154)):=(Ag _ w).alloc (Af _) _;have hB:=Ah w (.cells #[.slice p l.length c,.slice pd D.length cd,.slice pf nf cf,Dt g0 l.length] 154);have hm1:=hm.below ha;have hb1:=hb0.trans (ha.mono hb0.size);have hf1:FrT w0.heap.size [211] w (w.alloc (.cells #[.slice p l.length c,.slice pd D.length cd,.slice pf nf cf,Dt g0 l.length] 154)):=FrT.of_below ha;have hz:=Jib l D;have HH:=Aa h;have HDR:=Aa hD;have HDL:=Aa hD.len;have HOK:=Aa hok;have HSG:=Aa hsg;have HM1:=Aa hm1;have HF1:=Aa hf1;have HB1:=Aa hb1;have hgN:w0.heap.size≤w.heap.size:=hb0.size;generalize hN:w0.heap.size=N at*;have HN:=Aa hN;generalize hln:l.length=ln at*;have HLN:=Aa hln;generalize hdn:D.length=dn at*;have HDN:=Aa hdn;generalize hgB:w.heap.size=gB at*;have HGB:=Aa hgB;have HZ:=Aa hz;clear h hok hsg hD hb0 hm ha hm1 hb1 hf1 hN hln hdn hgB hz;go_enter Tryz.func112,Tryz.ntmps112;go_upto_region 1 with fail
 generalize w.alloc (.cells #[.slice p ln c,.slice pd dn cd,.slice pf nf cf,Dt g0 ln] 154)=w1 at*;rw[HGB.out];obtain⟨y0,y1,y2,y3,y4⟩:w1.cell? ⟨gB,0,none⟩=some (.slice p ln c)∧w1.cell? ⟨gB,1,none⟩=some (.slice pd dn cd)∧w1.cell? ⟨gB,2,none⟩=some (.slice pf nf cf)∧w1.cell? ⟨gB,3,none⟩=some (.slice (some ⟨g0,0,none⟩) ln ln)∧True:=by
  refine⟨?_,?_,?_,?_,trivial⟩
  all_goals exact(Am w1 gB _ _ _ (0,0) hB).trans rfl
 clear y4;go_wp2_with fail
 go_loopw [2,10,3,4,5,6] (fun r2 r10 _ _ _ _ wr=>∃i:Nat,r10= .int .i64 (i:Int)∧i≤ln∧r2= .int .i64 (Cv l D i 0:Int)∧Dr N wr g0 vs l (Gl l D i 0) ln∧wr.heap[gB]?=some (.cells #[.slice p ln c,.slice pd dn cd,.slice pf nf cf,Dt g0 ln] 154 (0,0))∧FrT N [211] w wr∧Below N w0 wr) (fun _ r10 _ _ _ _ _=>ln - (intOf r10).toNat)
 case atStart=>exact⟨0,rfl,Ak _,by rw[HZ.out];rfl,HM1.out,hB,HF1.out,HB1.out⟩
 case round=>
  obtain⟨i,rfl,hi,rfl,hm,hBr,hf,hb⟩:=hrel;clear hB y0 y1 y2 y3 HM1 HF1 HB1;by_cases hlt:i < ln
  ·obtain⟨o,ho⟩:∃o,l[i]?=some o:=⟨_,Ae (by rw[HLN.out];exact hlt)⟩
   obtain⟨b0,hv⟩:=hm.blk hlt ho;have r0:=hm.cell ho hv;have HO:=Aa ho;have HV:=Aa hv;have hoo:=HOK.out o (Ad ho);have hql:=hoo.few.1;obtain⟨b,off,p0,p1,p2,p4,c0,c1,c2,c4,hpe,e0',_,_,_,_,hsec,_⟩:=Du HH.out ho;subst hpe;have e0:=Ax (by rw[HN.out];exact hb) e0';have HSEC:=Aa hsec;obtain⟨ql,hqn⟩:∃ql,ql=o.secs.length:=⟨_,rfl⟩
   have HQN:=Aa hqn;rw[←hqn]at hql e0 r0;obtain⟨y0,y1,y2,y3,y4⟩:wr.cell? ⟨gB,0,none⟩=some (.slice (some ⟨b,off,none⟩) ln c)∧wr.cell? ⟨gB,1,none⟩=some (.slice pd dn cd)∧wr.cell? ⟨gB,2,none⟩=some (.slice pf nf cf)∧wr.cell? ⟨gB,3,none⟩=some (.slice (some ⟨g0,0,none⟩) ln ln)∧True:=by
    refine⟨?_,?_,?_,?_,trivial⟩
    all_goals exact(Am wr gB _ _ _ (0,0) hBr).trans rfl
   have j1:(i:Int) < (ln:Int):=by omega
   have j0:(0:Int)≤(i:Int):=by omega
   have HM:=Aa hm;have HBR:=Aa hBr;have HFR:=Aa hf;have HBW:=Aa hb;clear ho hv hoo hqn hsec e0' hm hBr hf hb y4;generalize hwo:wr=wo at*;clear hwo;go_wp2_with fail
   go_loopw [2,22,5,6] (fun r2 r22 _ _ wq=>∃q:Nat,r22= .int .i64 (q:Int)∧q≤ql∧r2= .int .i64 (Cv l D i q:Int)∧Dr N wq g0 vs l (Gl l D i q) ln∧wq.heap[gB]?=some (.cells #[.slice (some ⟨b,off,none⟩) ln c,.slice pd dn cd,.slice pf nf cf,Dt g0 ln] 154 (0,0))∧FrT N [211] w wq∧Below N w0 wq) (fun _ r22 _ _ _=>ql - (intOf r22).toNat)
   case atStart=>exact⟨0,rfl,Ak _,rfl,HM.out,HBR.out,HFR.out,HBW.out⟩
   case round=>
    obtain⟨q,rfl,hq,rfl,hm,hBr,hf,hb⟩:=hrel;clear y0 y1 y2 y3 e0 r0;have HMS:=Aa hm;clear hm;by_cases hlt2:q < ql
    ·obtain⟨s,hs⟩:∃s,o.secs[q]?=some s:=⟨_,Ae (by rw[←HQN.out];exact hlt2)⟩
     have HS:=Aa hs;have HSGS:=Aa (HSG.out o (Ad HO.out) s (Ad hs));obtain⟨b2,off2,p7,p8,c7,c8,hpe2,f0,f1,f2,f3,f4,f5,f6,f7,f8,hd7,hd8,hbd⟩:=Rz HSEC.out hs;subst hpe2;have hbW:Below w0.heap.size w0 wr:=by rw[HN.out];exact hb
     replace f0:=Ax hbW f0;replace f1:=Ax hbW f1;replace f2:=Ax hbW f2;replace f3:=Ax hbW f3;replace f4:=Ax hbW f4;replace f5:=Ax hbW f5;replace f6:=Ax hbW f6;replace f7:=Ax hbW f7;replace f8:=Ax hbW f8;have HD7:=Aa hd7;have hgr:gB < wr.heap.size:=(Ac.1 hBr).1;have hNr:N≤wr.heap.size:=by omega
     have hN2:=Ah wr (.cells #[.string s.name,.int .i64 s.type,.int .i64 s.flags,.int .i64 s.align,.int .i64 s.ent,.int .i64 s.link,.int .i64 s.size,.slice p7 s.data.length c7,.slice p8 s.rels.length c8] 89);have hb2:Below wr.heap.size wr (wr.alloc (.cells #[.string s.name,.int .i64 s.type,.int .i64 s.flags,.int .i64 s.align,.int .i64 s.ent,.int .i64 s.link,.int .i64 s.size,.slice p7 s.data.length c7,.slice p8 s.rels.length c8] 89)):=(Ag _ wr).alloc (Af _) _;have j4:(q:Int) < (ql:Int):=by omega
     have j5:(0:Int)≤(q:Int):=by omega
     clear hs hd7 hd8 hbd hbW;go_upto_region 8 with fail
     generalize wr.alloc (.cells #[.string s.name,.int .i64 s.type,.int .i64 s.flags,.int .i64 s.align,.int .i64 s.ent,.int .i64 s.link,.int .i64 s.size,.slice p7 s.data.length c7,.slice p8 s.rels.length c8] 89)=w2 at*;have hm2:=HMS.out.below hb2;have hB2:=(hb2.block gB hgr).trans hBr;have hf2:=hf.trans (FrT.of_below hb2);have hbb:=hb.trans (hb2.mono hNr);have hgs2:wr.heap.size < w2.heap.size:=(Ac.1 hN2).1;generalize wr.heap.size=g2 at*;have hc:∀j v,(#[.string s.name,.int .i64 s.type,.int .i64 s.flags,.int .i64 s.align,.int .i64 s.ent,.int .i64 s.link,.int .i64 s.size,.slice p7 s.data.length c7,.slice p8 s.rels.length c8]:Array Value)[j]?=some v→w2.cell? ⟨g2,j,none⟩=some v:=fun j v hv=>(Am w2 g2 j _ _ (0,0) hN2).trans hv;have s0:=hc 0 _ rfl;have s1:=hc 1 _ rfl;have s2:=hc 2 _ rfl;have s3:=hc 3 _ rfl;have s4:=hc 4 _ rfl;have s5:=hc 5 _ rfl;have s6:=hc 6 _ rfl;have s7:=hc 7 _ rfl;have s8:=hc 8 _ rfl;obtain⟨y0,y1,y2,y3,y4⟩:w2.cell? ⟨gB,0,none⟩=some (.slice (some ⟨b,off,none⟩) ln c)∧w2.cell? ⟨gB,1,none⟩=some (.slice pd dn cd)∧w2.cell? ⟨gB,2,none⟩=some (.slice pf nf cf)∧w2.cell? ⟨gB,3,none⟩=some (.slice (some ⟨g0,0,none⟩) ln ln)∧True:=by
      refine⟨?_,?_,?_,?_,trivial⟩
      all_goals exact(Am w2 gB _ _ _ (0,0) hB2).trans rfl
     have k2:=Jl9 HSGS.out.facts HSGS.out.bd;obtain⟨bd,od,qd,cdd,hpd,d0,hdr⟩:=Oa (HDR.out.has) (i:=i) (by rw[HDN.out,HDL.out];exact hlt);have hdrl:=HDR.out.row i o HO.out;obtain⟨bq,oq,dv,hqd,hdv,hcd⟩:=hdr.at_ (i:=q) (by rw[hdrl,←HQN.out];exact hlt2);have hcd0:w0.cell? ⟨bq,oq+q,none⟩=some (.bool dv):=by have:=hcd;unfold Ij at this;rw[Nat.mul_one]at this;exact this
     rw[hdrl,←HQN.out]at d0;have hbw2:Below w0.heap.size w0 w2:=by rw[HN.out];exact hbb
     replace d0:=Ax hbw2 d0;replace hcd0:=Ax hbw2 hcd0;have hdget:(Cz D i)[q]?.getD false=dv:=by rw[hdv];rfl
     have HHN:Hid (hasN D (i,q,s)=(hasF s.flags 2&& !dv)):=Aa (by unfold hasN;rw[hdget]);subst hpd;subst hqd;generalize hasF s.flags 2=fa at*;have k3:(i:Int) < (dn:Int):=by rw[HDL.out];exact j1
     obtain⟨sk,hsk⟩:∃sk,sk=(!fa || dv):=⟨_,rfl⟩
     have HSK:=Aa hsk;have HM2:=Aa hm2;have HB2:=Aa hB2;have HF2:=Aa hf2;have HBB:=Aa hbb;have HN2:=Aa hN2;clear hdrl hdv hcd hdget hdr hsk hbw2 hm2 hB2 hf2 hbb hN2 hc f0 f1 f2 f3 f4 f5 f6 f7 f8 hBr hf hb hb2 y4;go_cut [41] (fun s41 wx=>s41= .bool sk∧w2=wx)
     case first=>
      cases fa with
      |false=>
       obtain rfl:sk=true:=by rw[HSK.out];rfl
       go_wp2_with fail
       go_meet;exact⟨rfl,rfl⟩
      |true=>
       obtain rfl:sk=dv:=by rw[HSK.out];rfl
       go_wp2_with fail
       go_meet;exact⟨rfl,rfl⟩
     case rest=>
     obtain⟨rfl,rfl⟩:=hcut;clear d0 hcd0 k2;cases sk with
     |true=>
      have hno:hasN D (i,q,s)=false:=by
       rw[HHN.out];have:=HSK.out;cases fa<;>cases dv<;>first|rfl|(simp at this)
      have HP:Hid (Cv l D i (q+1)=Cv l D i q):=Aa (by rw[Yn HO.out HS.out];unfold Ch;rw[hno];rfl);have HMN:=Aa (HM2.out.congr (Jf7 HO.out HS.out hno));clear hno;go_wp2_with fail
      go_roundw
      case rel=>exact⟨q+1,by go_num,hlt2,by rw[HP.out],HMN.out,HB2.out,HF2.out,HBB.out⟩
      case measure=>simp[intOf];omega
     |false=>
      have hyes:hasN D (i,q,s)=true:=by
       rw[HHN.out];have:=HSK.out;cases fa<;>cases dv<;>first|rfl|(simp at this)
      have HYES:=Aa hyes;have hspl:=Jhg s p7 c7 (.slice p8 s.rels.length c8) w2 (HD7.out.1.below Ds.keeps (by rw[HN.out];exact HBB.out)) HD7.out.2.1 HD7.out.2.2.1 HD7.out.2.2.2 HSGS.out.bd HSGS.out.facts (by have:=HSGS.out.few;omega);have HSP:=Aa hspl;clear hspl hyes;have hgB2:gB < w2.heap.size:=(Ac.1 HB2.out).1
      go_upto_region 10 with(first|(go_at_call 163
                                    refine HSP.out.mono ?_;rintro e w3 ⟨v3,rfl,hown3,hb3⟩;obtain⟨pp,cp,rfl,_⟩:=Bl hown3;have hm3:=HM2.out.below hb3;obtain⟨t1,t2,t3,pv,u0,u1,u2,u3,_,_,_,_,hset⟩:=hm3.at_ hlt HO.out HV.out HS.out (Jk9 l D i q s)
                                    have t30:=t3 (q*4))|fail)
      have hpl:(piecesOf s).length≤16384:=(Ey HSGS.out.facts).2.1;have hfew:=Jbl (D:=D) HSG.out HOK.out i q;have hfm:(i+1)*16384000≤1001*16384000:=Nat.mul_le_mul_right _ (by omega);obtain⟨hS1,hS2⟩:=hset (.slice pp (piecesOf s).length cp) (piecesOf s) ⟨Cm hown3 (show N≤w2.heap.size by omega),Jbe HSGS.out.facts⟩;have hB4:=hS2.heap ((hb3.block gB hgB2).trans HB2.out) (by decide);have hf4:=(HF2.out.trans (FrT.of_below hb3)).trans hS2;have hb4:=(HBB.out.trans (hb3.mono (by omega))).trans (hS2.below (by have:=hb3.size;omega));generalize w3.setCell ⟨b0,q*4,none⟩ (.slice pp (piecesOf s).length cp)=w4 at*;obtain⟨_,_,t3',pv',u0',u1',u2',u3',_,hset4,_⟩:=hS1.at_ (k:=q) hlt HO.out HV.out HS.out (Jgr _ _ _ _ _);have t31:=t3' (q*4+1);obtain⟨hS3,hS4⟩:=hset4 (Cv l D i q:Int);have HB5:=Aa (hS4.heap hB4 (by decide));have HF5:=Aa (hf4.trans hS4);have HBB5:=Aa (hb4.trans (hS4.below (by have:=(Ac.1 hB4).1;omega)));have HS3:=Aa hS3;have HST:=Aa (Yn (D:=D) HO.out HS.out);have HPC:Hid (Ch D (i,q,s)=piecesOf s):=Aa (by unfold Ch;rw[HYES.out];rfl);clear hset hset4 hS1 hS2 hS3 hS4 hB4 hf4 hb4 hb3 hown3 t3 t3' t30 u0 u1 u2 u3 u0' u2' u3' hm3 s0 s1 s2 s3 s4 s5 s6 s7 s8 y0 y1 y2 y3;go_upto_region 11 with fail
      generalize w4.setCell ⟨b0,q*4+1,none⟩ (.int .i64 (Cv l D i q:Int))=w5 at*;obtain⟨_,_,_,pv5,u0,u1,u2,u3,hok5,_⟩:=HS3.out.at_ (k:=q) hlt HO.out HV.out HS.out (Jgr _ _ _ _ _);obtain⟨p5,c5,hpv5,_⟩:=Bl hok5.1;replace hpv5:pv5= .slice p5 (piecesOf s).length c5:=hpv5;rw[hpv5]at u0;have HM5:=Aa (HS3.out.congr (Jgb HO.out HS.out HYES.out));have HSTN:Hid (Cv l D i (q+1)=Cv l D i q+(piecesOf s).length):=Aa (by rw[HST.out,HPC.out]);obtain⟨F,hF⟩:∃F,F=Cv l D i q:=⟨_,rfl⟩
      obtain⟨pn,hpn⟩:∃pn,pn=(piecesOf s).length:=⟨_,rfl⟩
      rw[←hF]at HSTN hfew u1⊢;rw[←hpn]at HSTN hpl⊢;replace u0:w5.cell? ⟨b0,q*4,none⟩=some (.slice p5 pn c5):=by rw[hpn];exact u0
      have kw:IntKind.i64.wrap ((F:Int)+(pn:Int))=(F:Int)+(pn:Int):=Al _ (by omega);clear hF hpn hok5 hpv5 t31 u1';go_wp2_with fail
      go_roundw
      case rel=>exact⟨q+1,by go_num,hlt2,by rw[HSTN.out];go_num,HM5.out,HB5.out,HF5.out,HBB5.out⟩
      case measure=>simp[intOf];omega
    ·obtain rfl:q=ql:=by omega
     have HMX:=Aa (HMS.out.congr (Jfw HO.out (by rw[←HQN.out];exact Af _)));have HFX:Hid (Cv l D (i+1) 0=Cv l D i q):=Aa (Jia HO.out (by rw[←HQN.out];exact Af _));have HBX:=Aa hBr;have m1:¬(q:Int) < (q:Int):=by omega
     clear hBr;go_wp2_with fail
     go_roundw
     case rel=>exact⟨i+1,by go_num,by omega,by rw[HFX.out],HMX.out,HBX.out,hf,hb⟩
     case measure=>simp[intOf];omega
  ·obtain rfl:i=ln:=by omega
   have HMX:=Aa hm;have m1:¬(i:Int) < (i:Int):=by omega
   have HLE:=Aa HLN.out;clear hm hBr;go_wp2_with fail
   exact bodyPost_end (results_none rfl _ _ _) rfl ⟨rfl,HMX.out,hf⟩
end Go.Proofs.YteopgmieindojaaGreat
