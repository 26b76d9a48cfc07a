/- Parts of a proof. -/
import Derived.Test.YteopgmieindojaaGreatGX22
import Derived.Test.YteopgmieindojaaGreatGX01
import Derived.Test.YteopgmieindojaaGreatGX17
import Derived.Test.YteopgmieindojaaGreatGX06
import Derived.Lib.AppendStr
import Derived.Deep.QuietTactic
import Derived.BigQuiet
import Derived.Deep.DeepCutAuto
import Derived.Deep.CutBlock
import Derived.Laws.Closers25
import Derived.Maps.OwnSet
import Derived.Maps.OwnOps
set_option maxRecDepth 1000000
set_option maxHeartbeats 8000000
namespace Go.Proofs.YteopgmieindojaaGreat
open Go.RowKit
def inR(n a b:Int):Bool:=decide (a≤n)&&decide (n≤b)
theorem Ek(n a b:Int)(w:World):Calls Tryz.prog 153 #[.int .i64 n,.int .i64 a,.int .i64 b] w fun e w'=>e= .returned (.bool (inR n a b))∧w=w':=by
 by_cases h1:a≤n
 ·have d1:decide (a≤n)=true:=Aj h1;have HR:Hid (inR n a b=decide (n≤b)):=Aa (by unfold inR;rw[d1];rfl);by_cases h2:n≤b
  ·have d2:decide (n≤b)=true:=Aj h2;have HR2:Hid (inR n a b=true):=Aa (by rw[HR.out,d2]);clear h1 h2;go_enter Tryz.func153,Tryz.ntmps153;go_wp2_with fail
   go_ret;rw[HR2.out];exact⟨rfl,rfl⟩
  ·have d2:decide (n≤b)=false:=Ai h2;have HR2:Hid (inR n a b=false):=Aa (by rw[HR.out,d2]);clear h1 h2;go_enter Tryz.func153,Tryz.ntmps153;go_wp2_with fail
   go_ret;rw[HR2.out];exact⟨rfl,rfl⟩
 ·have d1:decide (a≤n)=false:=Ai h1;have HR:Hid (inR n a b=false):=Aa (by unfold inR;rw[d1];rfl);clear h1;go_enter Tryz.func153,Tryz.ntmps153;go_wp2_with fail
  go_ret;rw[HR.out];exact⟨rfl,rfl⟩
theorem Nw(n:Int)(w:World):Calls Tryz.prog 189 #[.int .i64 n] w fun e w'=>e= .returned (.bool (inR n 0 2147483647))∧w=w':=by
 have HW:=Aa fun W=>Ek n 0 2147483647 W;go_enter Tryz.func189,Tryz.ntmps189;go_wp2_with fail
 refine(HW.out _).mono ?_;rintro e w' ⟨rfl,rfl⟩;go_wp2_with fail
 go_ret;exact⟨rfl,rfl⟩
theorem Hn(nm:ByteArray)(ty fl al en li sz:Int)(vd vr:Value)(k:Int)(w:World):
 Calls Tryz.prog 154 #[Pe nm ty fl al en li sz vd vr,.int .i64 k] w fun e w'=>e= .returned (.bool (hasO fl k))∧Below w.heap.size w w':=by
 go_enter Tryz.func154,Tryz.ntmps154;go_wp2_with fail
 go_ret;exact⟨rfl,(Ag _ w).alloc (Af _) _⟩
def Rl(w:World)(p:Option Addr)(ss:List ByteArray):Prop:=
 ∀i x,ss[i]?=some x→∃a,p=some a∧w.cell? (a.add i)=some (.string x)
theorem Rl.at_{w:World}{p:Option Addr}{ss:List ByteArray}(h:Rl w p ss){i:Nat}(hi:i < ss.length):
 ∃b off x,p=some ⟨b,off,none⟩∧ss[i]?=some x∧w.cell? ⟨b,off+i,none⟩=some (.string x):=by
 obtain⟨⟨b,off,spot⟩,e,hc⟩:=h i ss[i] (Ae hi);have hs:spot=none:=by
  obtain⟨a0,e0,hc0⟩:=h 0 ss[0] (Ae (by omega));rw[e]at e0;cases e0;simpa[Addr.add]using World.cell?_spot hc0
 subst hs;refine⟨b,off,ss[i],e,Ae hi,?_⟩;have ha:(⟨b,off,none⟩:Addr).add i=⟨b,off+i,none⟩:=by unfold Addr.add;split<;>simp_all
 rwa [ha]at hc
abbrev lst (s:ByteArray):Nm:=s.data.toList
theorem Zz{a b:ByteArray}(h:lst a=lst b):a=b:=by
 apply ByteArray.ext;exact Array.toList_inj.1 h
theorem Ty(s:ByteArray):Lib.strCells s=(lst s).map u8v:=by simp[Lib.strCells,u8v]
theorem Kq{w:World}{b1 b2:Nat}{e1 e2:TypeId}{s1 s2:Nat}{v1 v2:Value}{n1 n2:Nat}{xs1 xs2:List Value}(h1:w.ownsRow b1 e1 s1 v1 n1 xs1)(h2:w.ownsRow b2 e2 s2 v2 n2 xs2)(he:e1≠e2):
 v1.ownBlock=none∨v1.ownBlock≠v2.ownBlock:=by
 rcases h1.2 with⟨rfl,_⟩|⟨g,cap,cur,rfl,_,hg,_⟩
 ·exact .inl rfl
 ·right;rcases h2.2 with⟨rfl,_⟩|⟨g',cap',cur',rfl,_,hg',_⟩
  ·simp[Value.ownBlock]
  ·simp only[Value.ownBlock,ne_eq,Option.some.injEq];intro e;subst e;rw[hg]at hg';simp only[Option.some.injEq,Obj.cells.injEq]at hg';exact he hg'.2.1
def Jlx(ns:List Nm)(w:World)(e:Ending)(w':World):Prop:=
 ∃v1 v2,e= .returned (.tuple #[v1,v2])∧w'.ownsRow w.heap.size 5 1 v1 (Cj ns).tb.length ((Cj ns).tb.map u8v)∧w'.ownsRow w.heap.size 3 1 v2 (placesOf ns).length (Hh (placesOf ns))∧Below w.heap.size w w'
theorem Gb(ns:List Nm):(placesOf ns).length=ns.length:=by simp[placesOf]
theorem Jdc(w:World):(w.alloc (.cells #[.int .u8 0] 5)).ownsRow w.heap.size 5 1 (.slice (some ⟨w.heap.size,0,none⟩) 1 1) 1 ([0].map u8v):=
 World.ownsRow_lit w #[u8v 0] 1 (Af _) (by unfold maxLen;omega) rfl
theorem Jfn{s:ByteArray}(h:lst s= []):s.toList.isEmpty=true:=by
 rw[←decide_eq_emptyBytes,decide_eq_true_eq];exact Zz (by rw[h];rfl)
theorem Jir{s:ByteArray}(h:lst s≠ []):s.toList.isEmpty=false:=by
 rw[←decide_eq_emptyBytes,decide_eq_false_iff_not];intro e;exact h (by rw[e];rfl)
theorem eq_no{x y:ByteArray}(h:y≠x):(y.toList==x.toList)=false:=by
 rw[ByteArray.toList_eq,ByteArray.toList_eq,beq_eq_false_iff_ne];exact fun e=>h (Zz e)
def Qz(ns:List Nm)(n:Nm)(k:Nat)(a:Int):Prop:=
 (a= -1∧n≠ []∧∀j y,j < k→ns[j]?=some y→y≠n)∨(a=(placeOf ns n:Int)∧(n= []∨n∈ns))
theorem Vq(w:World)(x:UInt8):∀j z, [u8v x][j]?=some z→(w.alloc (.cells #[.int .u8 (x.toNat:Int)] 5)).cell? ((⟨w.heap.size,0,none⟩:Addr).add j)=some z:=fun j z hj=>by
 match j,hj with
 |0,hj=>simp at hj;subst hj;simp[Addr.add,u8v]
theorem Jaz(x:UInt8):∀u∈ [u8v x],u.oneCell'=true:=fun u hu=>by simp at hu;subst hu;rfl
theorem Jds(w:World)(q:Int)(t:TypeId):∀j z, [Value.int .i64 q][j]?=some z→(w.alloc (.cells #[.int .i64 q] t)).cell? ((⟨w.heap.size,0,none⟩:Addr).add j)=some z:=fun j z hj=>by
 match j,hj with
 |0,hj=>simp at hj;subst hj;simp[Addr.add]
theorem Jjb(q:Int):∀u∈ [Value.int .i64 q],u.oneCell'=true:=fun u hu=>by simp at hu;subst hu;rfl
theorem Jar(out:List UInt8)(d:UInt8):out.map u8v++ [u8v d]=(out++ [d]).map u8v:=by simp
theorem Ux(p:Option Addr)(len cap:Nat)(ss:List ByteArray)(w:World)(h:Rl w p ss)(hlen:ss.length=len)(hl100:len≤1000)(hs:∀s∈ss,mayB (lst s)=true):
 Calls Tryz.prog 37 #[.slice p len cap] w (Jlx (ss.map lst) w):=by
 obtain⟨i0,hi,hz0,hz1,hz2⟩:=info_parts Tryz.infoU8;obtain⟨i1,gi,gz0,gz1,gz2⟩:=info_parts Tryz.infoInt;have HI:=Aa hi;have H0:=Aa hz0;have H1:=Aa hz1;have H2:=Aa hz2;have GI:=Aa gi;have G0:=Aa gz0;have G1:=Aa gz1;have G2:=Aa gz2;have HS:=Aa hs;have HM:=Aa h;have HL:=Aa hlen;clear hs h hlen hi hz0 hz1 hz2 gi gz0 gz1 gz2;go_enter Tryz.func37,Tryz.ntmps37;go_wp2_with fail
 go_loopw [4,5,6] (fun out places ii wr=>∃(k n:Nat)(ns:List Nm),k≤len∧n≤33*k+1∧ns=(ss.take k).map lst∧ii= .int .i64 (k:Int)∧wr.ownsRow w.heap.size 5 1 out n ((Cj ns).tb.map u8v)∧wr.ownsRow w.heap.size 3 1 places k (Hh (placesOf ns))∧Below w.heap.size w wr) (fun _ _ ii _=>len - (intOf ii).toNat)
 case atStart=>exact⟨0,1, [],Ak _,Af _,rfl,rfl,Jdc w,Aq _ _ _ _,(Ag _ w).alloc (Af _) _⟩
 case round=>
  obtain⟨k,n,ns,hk,hn,hns,rfl,hown,hpl,hb⟩:=hrel;have HN:=Aa hns;clear hns;by_cases hlt:k < len
  ·obtain⟨b,off,x,rfl,hx,hc0⟩:=HM.out.at_ (i:=k) (by rw[HL.out];exact hlt);have hc:=Ax hb hc0;have HX:=Aa hx;have hI1:(k:Int) < (len:Int):=by omega
   have hI0:(0:Int)≤(k:Int):=by omega
   clear hc0 hx;have hns:ns.length=k:=by rw[HN.out];simp;have:=HL.out;omega
   have HNL:=Aa hns;clear hns;go_upto_if 20 with fail;go_cut [7] (fun s7 wx=>∃a:Int,s7= .int .i64 a∧Qz ns (lst x) 0 a∧ -1≤a∧a≤0∧wr=wx)
   case first=>
    by_cases hx0:lst x= []
    ·have he:=Jfn hx0;have HF:Hid (Qz ns (lst x) 0 0):=Aa (.inr ⟨by rw[hx0,Wi];rfl,.inl hx0⟩);clear hx0;rw[he];go_wp2_with fail
     go_meet;exact⟨0,rfl,HF.out,by omega,by omega,rfl⟩
    ·have he:=Jir hx0;have HF:Hid (Qz ns (lst x) 0 (-1)):=Aa (.inl ⟨rfl,hx0,fun j y hj=>absurd hj (by omega)⟩);clear hx0;rw[he];go_wp2_with fail
     go_meet;exact⟨-1,rfl,HF.out,by omega,by omega,rfl⟩
   case rest=>
    obtain⟨a0,rfl,hf0,ha1,ha2,rfl⟩:=hcut;have HF0:=Aa hf0;clear hf0;go_upto_block 2 with fail;go_cut [7] (fun s7 wx=>∃(a:Int)(m:Nat),s7= .int .i64 a∧Qz ns (lst x) k a∧ -1≤a∧wx=wr.drewN m)
    case first=>
     go_wp2_with fail
     go_loopw [7,8] (fun s7 s8 wx=>∃(a:Int)(j m:Nat),s7= .int .i64 a∧s8= .int .i64 (j:Int)∧j≤k∧Qz ns (lst x) j a∧ -1≤a∧wx=wr.drewN m) (fun _ s8 _=>k - (intOf s8).toNat)
     case atStart=>exact⟨a0,0,0,rfl,rfl,Ak _,HF0.out,ha1,rfl⟩
     case round=>
      obtain⟨a,j,m,rfl,rfl,hjk,hf,hage,rfl⟩:=hrel;have HF:=Aa hf;clear hf;by_cases hj:j < k
      ·have hjI:(j:Int) < (k:Int):=by omega
       by_cases hneg:a < 0
       ·obtain rfl:a= -1:=by omega
        obtain⟨b',off',y,hp',hy,hcy0⟩:=HM.out.at_ (i:=j) (by rw[HL.out];omega);simp only[Option.some.injEq,Addr.mk.injEq,and_true]at hp';obtain⟨rfl,rfl⟩:=hp';have hcy:=Ax hb hcy0;have hj0:(0:Int)≤(j:Int):=by omega
        have hjl:(j:Int) < (len:Int):=by omega
        have hnsj:ns[j]?=some (lst y):=by
         rw[HN.out,List.getElem?_map,List.getElem?_take,if_pos hj,hy];rfl
        have HNJ:=Aa hnsj;clear hcy0 hy hnsj;by_cases hyx:y=x
        ·subst hyx;obtain⟨g,gc,cur,rfl,_,_,_,hgc,hgm,_,_⟩:=Oo hpl (by omega);have hpc:wr.cell? ⟨g,j,none⟩=some (.int .i64 (placeOf ns (lst y):Int)):=by
          rw[hpl.cellAt j (by omega)];simp only[Hh,placesOf,List.map_map,List.getElem?_map,HNJ.out];rfl
         have HF2:Hid (Qz ns (lst y) (j+1) (placeOf ns (lst y):Int)):=Aa (.inr ⟨rfl,.inr (Ad HNJ.out)⟩);clear hneg;generalize (placeOf ns (lst y))=q at*;go_wp2_with fail
         go_quiet (fail);go_wp2_with fail
         go_roundw
         case rel=>exact⟨_,j+1,_,rfl,by go_num,hj,HF2.out,by omega,rfl⟩
         case measure=>simp[intOf];omega
        ·have hne2:=eq_no hyx
         have HF2:Hid (Qz ns (lst x) (j+1) (-1)):=Aa (by
          rcases HF.out with⟨h1,h2,h3⟩|⟨h1,_⟩
          ·refine .inl ⟨h1,h2,fun i z hi hz=>?_⟩;by_cases e:i=j
           ·subst e;rw[HNJ.out]at hz;cases hz;exact fun e=>hyx (Zz e)
           ·exact h3 i z (by omega) hz
          ·omega)
         clear hneg;go_wp2_with fail
         go_quiet (fail);go_wp2_with fail
         go_roundw
         case rel=>exact⟨_,j+1,_,rfl,by go_num,hj,HF2.out,by omega,rfl⟩
         case measure=>simp[intOf];omega
       ·have HF2:Hid (Qz ns (lst x) k a):=Aa (by
         rcases HF.out with⟨h1,_⟩|h1
         ·omega
         ·exact .inr h1)
        have hnI:¬a < 0:=hneg;go_wp2_with fail
        go_meet;exact⟨a,m,rfl,HF2.out,hage,rfl⟩
      ·obtain rfl:j=k:=by omega
       have hjI:¬(j:Int) < (j:Int):=by omega
       go_wp2_with fail
       go_meet;exact⟨a,m,rfl,HF.out,hage,rfl⟩
    case rest=>
     obtain⟨a,m,rfl,hf,hage,rfl⟩:=hcut;have HF:=Aa hf;clear hf;have hownm:(wr.drewN m).ownsRow w.heap.size 5 1 u4 n ((Cj ns).tb.map u8v):=hown;have hplm:(wr.drewN m).ownsRow w.heap.size 3 1 u5 k (Hh (placesOf ns)):=hpl;have hbm:Below w.heap.size w (wr.drewN m):=Bq hb m;have hcm:(wr.drewN m).cell? ⟨b,off+k,none⟩=some (.string x):=hc;clear hown hpl hb hc;generalize wr.drewN m=wd at*;go_upto_if 44 with fail;go_cut [4,7] (fun s4 s7 wx=>∃(n2 q:Nat),s7= .int .i64 (q:Int)∧q=placeOf (ns++ [lst x]) (lst x)∧n2≤33*(k+1)+1∧wx.ownsRow w.heap.size 5 1 s4 n2 ((Cj (ns++ [lst x])).tb.map u8v)∧wx.ownsRow w.heap.size 3 1 u5 k (Hh (placesOf ns))∧Below w.heap.size w wx)
     case first=>
      by_cases hneg:a < 0
      ·have hnew:lst x≠ []∧lst x∉ns:=by
        rcases HF.out with⟨_,h2,h3⟩|⟨h1,_⟩
        ·refine⟨h2,fun hm=>?_⟩;obtain⟨j,hj⟩:=Av hm;exact h3 j _ (by have:=(Ab.1 hj).1;have:=HNL.out;omega) hj rfl
        ·omega
       have HT:=Aa (Nx hnew.1 hnew.2);have hx32:=(Jet (HS.out x (Ad HX.out))).1;have hxs:(lst x).length=x.size:=by simp
       have HXS:=Aa hxs;have hsz:x.size≤32:=by omega
       have hnt:(Cj ns).tb.length=n:=by have:=hownm.1;simpa using this
       have HNT:=Aa hnt;have hap:=Kq hplm hownm (by decide);obtain⟨p4,c4,rfl,_,_,_,_⟩:=Has.of_owns hownm;obtain rfl:a= -1:=by rcases HF.out with⟨h,_⟩|⟨h,_⟩<;>omega
       clear hnew hx32 hxs hnt hneg;go_wp2_with (at_builtin;refine Lib.wpList_append_own_string wd rfl (.tmp 47) (.tmp 51) 31 9 rfl w.heap.size 5 i0 Tryz.underlying31 Tryz.underlying9 HI.out H0.out H1.out H2.out _ n _ rfl hownm x rfl (by unfold maxLen;omega) (by omega) hbm.size ?_)
       intro v5 w5 hown5 hgrow5 _;have hpl5:=hplm.kept hgrow5 hap;have hb5:Below w.heap.size w w5:=hbm.grown hgrow5 hbm.size (fun g hg=>(hownm.lt g hg).1);rw[Ty,←List.map_append]at hown5;clear hgrow5 hplm hap hownm hbm hcm;go_wp2_with (at_builtin;refine wpList_append_own _ rfl (.tmp 53) (.tmp 54) 31 rfl w.heap.size 5 i0 (.int .u8 0) 1 1 Tryz.underlying31 HI.out H0.out H1.out H2.out rfl (by decide) _ _ _ rfl (hown5.alloc _) ⟨w5.heap.size,0,none⟩ 1 1 [u8v 0] rfl rfl (Vq w5 0) (Jaz 0) (by unfold maxLen;omega) (by omega) (by have:=hb5.size;simp;omega) ?_)
       intro v6 w6 hown6 hgrow6 _;have hap6:=Kq (hpl5.alloc (.cells #[.int .u8 0] 5)) (hown5.alloc (.cells #[.int .u8 0] 5)) (by decide);have hpl6:=(hpl5.alloc (.cells #[.int .u8 0] 5)).kept hgrow6 hap6;have hb6:Below w.heap.size w w6:=(hb5.alloc hb5.size _).grown hgrow6 (by have:=hb5.size;simp;omega) (fun g hg=>(hown5.lt g hg).1);rw[Jar]at hown6;clear hgrow6 hpl5 hap6 hown5 hb5;go_wp2_with fail
       go_meet;refine⟨n+x.size+1,n,rfl,by rw[HT.out.2,HNT.out],by omega,?_,hpl6,hb6⟩;rw[HT.out.1,List.map_append];exact hown6
      ·have hold:lst x= []∨lst x∈ns:=by
        rcases HF.out with⟨h,_⟩|⟨_,h⟩
        ·omega
        ·exact h
       obtain⟨q,rfl⟩:=Au (show 0≤a by omega);have HT:=Aa (Vd hold);have HQ:Hid (q=placeOf ns (lst x)):=Aa (by rcases HF.out with⟨h,_⟩|⟨h,_⟩<;>omega);have hnI:¬(q:Int) < 0:=by omega
       clear hold hneg;go_wp2_with fail
       go_meet;exact⟨n,q,rfl,by rw[HT.out.2];exact HQ.out,by omega,by rw[HT.out.1];exact hownm,hplm,hbm⟩
     case rest=>
      obtain⟨n2,q,rfl,hq,hn2,hown2,hpl2,hb2⟩:=hcut;have HQ:=Aa hq;clear hq hcm hownm hplm hbm;go_wp2_with (at_builtin;refine wpList_append_own _ rfl (.tmp 56) (.tmp 58) 25 rfl w.heap.size 3 i1 (.int .i64 0) 1 8 Tryz.underlying25 GI.out G0.out G1.out G2.out rfl (by decide) _ _ _ rfl (hpl2.alloc _) ⟨wc.heap.size,0,none⟩ 1 1 [Value.int .i64 (q:Int)] rfl rfl (Jds wc _ _) (Jjb _) (by unfold maxLen;omega) (by omega) (by have:=hb2.size;simp;omega) ?_)
      intro v7 w7 hpl7 hgrow7 _;have hap7:=Kq (hown2.alloc (.cells #[.int .i64 (q:Int)] 3)) (hpl2.alloc (.cells #[.int .i64 (q:Int)] 3)) (by decide);have hown7:=(hown2.alloc (.cells #[.int .i64 (q:Int)] 3)).kept hgrow7 hap7;have hb7:Below w.heap.size w w7:=(hb2.alloc hb2.size _).grown hgrow7 (by have:=hb2.size;simp;omega) (fun g hg=>(hpl2.lt g hg).1);clear hgrow7 hpl2 hap7 hown2 hb2;go_wp2_with fail
      go_roundw
      case rel=>
       have hn1:(ss.take (k+1)).map lst=ns++ [lst x]:=by
        rw[List.take_add_one,HX.out,HN.out];simp
       refine⟨k+1,n2,ns++ [lst x],hlt,hn2,hn1.symm,by go_num,hown7,?_,hb7⟩;rw[Tl,←HQ.out,←Jav];exact hpl7
      case measure=>simp[intOf];omega
  ·obtain rfl:k=len:=by omega
   have ht:ss.take k=ss:=List.take_of_length_le (by rw[HL.out];exact Af _);have HNS:Hid (ns=ss.map lst):=Aa (by rw[HN.out,ht]);have hnt:(Cj ns).tb.length=n:=by have:=hown.1;simpa using this
   have hkl:(placesOf ns).length=k:=by have:=hpl.1;simp[Hh]at this;simpa using this
   rw[←hnt]at hown;rw[←hkl]at hpl;rw[HNS.out]at hown hpl;clear ht hnt hkl;go_wp2_with fail
   go_ret2;exact⟨_,_,rfl,hown,hpl,hb⟩
end Go.Proofs.YteopgmieindojaaGreat
namespace Go.Proofs.YteopgmieindojaaGreat
open Go.RowKit Go.Maps Go.WideMaps
theorem Jpf(l:List UInt8):mayB l=(decide (l.length≤32)&&decide (Lib.indexByte l 0 < 0)):=by
 rcases Wz 0 l with⟨k,h1,h2⟩|h
 ·rw[Ja6 h1,Wr h2 h1];simp
 ·rw[Jdv h];by_cases hl:l.length≤32
  ·rw[Je3 hl fun i y _ hy=>h i y hy];simp[hl]
  ·rw[Jak (by omega)];simp[hl]
theorem Jdo(s:ByteArray)(w:World):Calls Tryz.prog 188 #[.string s] w fun e w'=>e= .returned (.bool (mayB (lst s)))∧w=w':=by
 have HN:=Aa (Jhz s 0 w);have hz:(lst s).length=s.size:=by simp
 have hm:mayB (lst s)=(decide (s.size≤32)&&decide (Lib.indexByte (lst s) 0 < 0)):=by rw[Jpf,hz]
 clear hz;by_cases h32:s.size≤32
 ·have hI:(s.size:Int)≤32:=by omega
  by_cases h0:Lib.indexByte (lst s) 0 < 0
  ·have HM:Hid (mayB (lst s)=true):=Aa (by rw[hm];simp[h32,h0]);have hd:decide (Lib.indexByte s.data.toList (Int.toNat 0).toUInt8 < 0)=true:=Aj h0;clear hm h0;generalize Lib.indexByte s.data.toList (Int.toNat 0).toUInt8=r at*;have hr:r < 0:=of_decide_eq_true hd;clear hd;go_enter Tryz.func188,Tryz.ntmps188;go_wp2_with fail
   refine HN.out.mono ?_;rintro e w' ⟨rfl,rfl⟩;go_wp2_with fail
   go_ret;exact⟨by rw[HM.out];first|rfl|(simp;omega)|fail,rfl⟩
  ·have HM:Hid (mayB (lst s)=false):=Aa (by rw[hm];simp[h0]);have hd:¬Lib.indexByte s.data.toList (Int.toNat 0).toUInt8 < 0:=h0;clear hm h0;generalize Lib.indexByte s.data.toList (Int.toNat 0).toUInt8=r at*;go_enter Tryz.func188,Tryz.ntmps188;go_wp2_with fail
   refine HN.out.mono ?_;rintro e w' ⟨rfl,rfl⟩;go_wp2_with fail
   go_ret;exact⟨by rw[HM.out];first|rfl|(simp;omega)|fail,rfl⟩
 ·have HM:Hid (mayB (lst s)=false):=Aa (by rw[hm];simp[h32]);have hI:¬(s.size:Int)≤32:=by omega
  clear hm;go_enter Tryz.func188,Tryz.ntmps188;go_wp2_with fail
  go_ret;exact⟨by rw[HM.out];first|rfl|(simp;omega)|fail,rfl⟩
theorem Vj{H:Type}{P:Program}(w:World){ops:Array Oper}{rest:List Oper}{o:Oper}{a:Act}{Q:Exit→Act→World→Prop}
 (hg:o.guard=none)(m x v:Operand)(t:TypeId)(hop:o.op=Op.insert t m x v)
 (k e:TypeId)(K:Keyed P k)(ht:P.underlying t=some (.map k e))(R:Value→Option (DataW H × List MemPlace))(b n:Nat)(D:DataW H)
 (hm:a.eval m= .map (some b))(hown:w.ownsMap P k R b n D)(hn:n < maxLen)(key val:Value)(kl:Lit)(hx:a.eval x=key)(hv:a.eval v=val)(hkey:keyOf P k key=some kl)
 (d:DataW H)(ps:List MemPlace)(hval:R val=some (d,ps))
 (hK:∀w',w'.ownsMap P k R b (n+1) (D.put kl d)→w.grownBy w' (some b)→wpList P ops Q rest (a.put o.dst undef) w'):
 wpList P ops Q (o::rest) a w:=by
 refine wpList_plain hg fun K' hK'=>?_;obtain⟨w',hrun,r1,r2⟩:=hown.update K ht hn hkey hval;unfold Oper.wp;simp[execOp,hop,hm,hx,hv,hrun,Result.andThen];exact hK' _ _ (hK w' r1 r2)
theorem Ud{H:Type}{P:Program}{w:World}{b1 b:Nat}{e1 k:TypeId}{s1:Nat}{v1:Value}{n1 n:Nat}{xs1:List Value}{R:Value→Option (DataW H × List MemPlace)}{D:DataW H}(h1:w.ownsRow b1 e1 s1 v1 n1 xs1)(h2:w.ownsMap P k R b n D):
 v1.ownBlock=none∨v1.ownBlock≠some b:=by
 obtain⟨es,clock,hb,_⟩:=h2;rcases h1.2 with⟨rfl,_⟩|⟨g,cap,cur,rfl,_,hg,_⟩
 ·exact .inl rfl
 ·right;simp only[Value.ownBlock,ne_eq,Option.some.injEq];intro e;subst e;rw[hg]at hb;cases hb
theorem Pp{H:Type}{P:Program}{w:World}{b1 b:Nat}{e1 k:TypeId}{s1:Nat}{v1:Value}{n1 n:Nat}{xs1:List Value}{R:Value→Option (DataW H × List MemPlace)}{D:DataW H}(h1:w.ownsRow b1 e1 s1 v1 n1 xs1)(h2:w.ownsMap P k R b n D):
 some b≠v1.ownBlock:=by
 rcases Ud h1 h2 with h|h
 ·rw[h];simp
 ·exact fun e=>h e.symm
theorem Za:Keyed Tryz.prog 9:=string_keyed Tryz.underlying9
theorem Jg9(w:World):(zeroValue 3).run Tryz.prog w= .ok (.int .i64 0) w:=by kernel_rfl
def Mj(wr:World)(b k:Nat)(ns:List Nm):Prop:=
 ∃D:DataW Unit,wr.ownsMap Tryz.prog 9 (plainElem Tryz.prog 3) b k D∧∀n:Nm,((n= []∨n∈ns)∧Maps.has D (.string n)=true∧D.atKey (.string n) (.lit (.int .i64 0))= .lit (.int .i64 (placeOf ns n:Int)))∨(¬(n= []∨n∈ns)∧Maps.has D (.string n)=false)
theorem Jcg(n:Nm):WideAt.IsKeyLit (.string n):=trivial
theorem Jff{wr:World}{b:Nat}(h:wr.ownsMap Tryz.prog 9 (plainElem (H:=Unit) Tryz.prog 3) b 1 ((DataW.map []).put (.string []) (.lit (.int .i64 0)))):Mj wr b 1 []:=by
 refine⟨_,h,fun n=>?_⟩;by_cases hn:n= []
 ·subst hn;refine .inl ⟨.inl rfl,has_put_same isMap_empty (Jcg _) _,?_⟩;rw[atKey_put_same isMap_empty (Jcg _)];rfl
 ·refine .inr ⟨by simp[hn],?_⟩;rw[has_put_other (by simpa using hn)];rfl
theorem Jle{wr:World}{b k:Nat}{ns:List Nm}{x:Nm}(h:Mj wr b k ns)(hx:x= []∨x∈ns):Mj wr b (k+1) (ns++ [x]):=by
 obtain⟨D,hD,hn⟩:=h;refine⟨D,hD.mono (Nat.le_succ _),fun n=>?_⟩;rcases hn n with⟨h1,h2,h3⟩|⟨h1,h2⟩
 ·refine .inl ⟨?_,h2,by rw[La x h1];exact h3⟩;rcases h1 with h1|h1
  ·exact .inl h1
  ·exact .inr (List.mem_append_left _ h1)
 ·refine .inr ⟨fun hc=>?_,h2⟩;rcases hc with hc|hc
  ·exact h1 (.inl hc)
  ·rcases List.mem_append.1 hc with hc|hc
   ·exact h1 (.inr hc)
   ·simp at hc;subst hc;exact h1 hx
theorem Jj2{D:DataW Unit}{wr:World}{b k:Nat}{ns:List Nm}{x:Nm}{p:Nat}(hn:∀n:Nm,((n= []∨n∈ns)∧Maps.has D (.string n)=true∧D.atKey (.string n) (.lit (.int .i64 0))= .lit (.int .i64 (placeOf ns n:Int)))∨(¬(n= []∨n∈ns)∧Maps.has D (.string n)=false))
 (hD:IsMap D)(h:wr.ownsMap Tryz.prog 9 (plainElem Tryz.prog 3) b (k+1) (D.put (.string x) (.lit (.int .i64 (p:Int)))))(h0:x≠ [])(hx:x∉ns)(hp:p=(Cj ns).tb.length):Mj wr b (k+1) (ns++ [x]):=by
 subst hp;refine⟨_,h,fun n=>?_⟩;by_cases e:n=x
 ·subst e;refine .inl ⟨.inr (by simp),has_put_same hD (Jcg _) _,?_⟩;rw[atKey_put_same hD (Jcg _),(Nx h0 hx).2]
 ·rw[has_put_other (by simpa using e),atKey_put_other (by simpa using e)];rcases hn n with⟨h1,h2,h3⟩|⟨h1,h2⟩
  ·refine .inl ⟨?_,h2,by rw[La x h1];exact h3⟩;rcases h1 with h1|h1
   ·exact .inl h1
   ·exact .inr (List.mem_append_left _ h1)
  ·refine .inr ⟨fun hc=>?_,h2⟩;rcases hc with hc|hc
   ·exact h1 (.inl hc)
   ·rcases List.mem_append.1 hc with hc|hc
    ·exact h1 (.inr hc)
    ·simp at hc;exact e hc
def Ki(ns:List Nm)(len:Nat):List Value:=Hh (placesOf ns)++List.replicate (len - ns.length) (.int .i64 0)
theorem Jhd(len:Nat):Ki [] len=List.replicate len (.int .i64 0):=by simp[Ki,placesOf,Hh]
theorem Jho{ns:List Nm}{len:Nat}(h:ns.length=len):Ki ns len=Hh (placesOf ns):=by simp[Ki,h]
theorem Vz(l:List Nat):(Hh l).length=l.length:=by simp[Hh]
theorem Yc{ns:List Nm}{x:Nm}{len q:Nat}(h:ns.length < len)(hq:q=placeOf (ns++ [x]) x):(Ki ns len).set ns.length (.int .i64 (q:Int))=Ki (ns++ [x]) len:=by
 have hl:(Hh (placesOf ns)).length=ns.length:=by rw[Vz,Gb]
 unfold Ki;rw[List.set_append_right _ _ (by omega),hl,Nat.sub_self,show len - ns.length=(len - (ns++ [x]).length)+1 by simp;omega,List.replicate_succ,List.set_cons_zero,Tl,←hq,←Jav];simp
theorem Ni{ns:List Nm}{len:Nat}(h:ns.length≤len):(Ki ns len).length=len:=by
 unfold Ki;rw[List.length_append,Vz,Gb,List.length_replicate];omega
theorem Yz(p:Option Addr)(len cap:Nat)(ss:List ByteArray)(w:World)(h:Rl w p ss)(hlen:ss.length=len)(hl100:len≤1000)(hs:∀s∈ss,mayB (lst s)=true):
 Calls Tryz.prog 124 #[.slice p len cap] w (Jlx (ss.map lst) w):=by
 obtain⟨i0,hi,hz0,hz1,hz2⟩:=info_parts Tryz.infoU8;obtain⟨i1,gi,gz0,gz1,gz2⟩:=info_parts Tryz.infoInt;have HI:=Aa hi;have H0:=Aa hz0;have H1:=Aa hz1;have H2:=Aa hz2;have GI:=Aa gi;have G0:=Aa gz0;have G1:=Aa gz1;have G2:=Aa gz2;have HS:=Aa hs;have HM:=Aa h;have HL:=Aa hlen;have gb8:i1.bytes*len≤281474976710656:=by rw[gz2];omega
 clear hs h hlen hi hz0 hz1 hz2 gi gz0 gz1 gz2;have hmm:=@run_makeMap Tryz.prog;go_enter Tryz.func124,Tryz.ntmps124;go_wp2_with (refine Vj (H:=Unit) _ rfl (.tmp 12) _ _ 265 rfl 9 3 Za Tryz.underlying265 (plainElem Tryz.prog 3) (w.heap.size+1) 0 _ rfl (by simpa using World.ownsMap_made (w.alloc (.cells #[.int .u8 0] 5)) _ _ _) (by unfold maxLen;omega) _ _ _ rfl rfl (keyOf_string_mk Tryz.underlying9 (by decide)) _ [] (plainElem_int Tryz.underlying3 (by decide)) ?_)
 intro w1 hm1 hg1;have hk1:Mj w1 (w.heap.size+1) 1 []:=Jff hm1;have ht1:w1.ownsRow w.heap.size 5 1 (.slice (some ⟨w.heap.size,0,none⟩) 1 1) 1 ([0].map u8v):=((Jdc w).alloc (.map #[] 0)).kept hg1 (.inr (by simp[Value.ownBlock]));have hb1:Below w.heap.size w w1:=(((Ag _ w).alloc (Af _) _).alloc (by simp) _).grown hg1 (by simp;omega) (fun g hg=>by simp at hg;omega);clear hm1 hg1;go_wp2_with (at_make;refine wpList_make_full _ rfl _ _ 25 rfl w.heap.size 3 i1 (.int .i64 0) 1 Tryz.underlying25 GI.out G0.out G1.out _ _ _ _ len rfl rfl rfl rfl gb8 (by unfold maxLen;omega) hb1.size ?_)
 intro w2 hp2 hg2;have hk2:Mj w2 (w.heap.size+1) 1 []:=let ⟨D,hD,hn⟩:=hk1;⟨D,hD.kept hg2 (by simp),hn⟩;have ht2:=ht1.kept hg2 (.inr (by simp[Value.ownBlock]));have hb2:Below w.heap.size w w2:=hb1.grown hg2 hb1.size (fun g hg=>by cases hg);have hp3:w2.ownsRow w.heap.size 3 1 (.slice (some ⟨w1.heap.size,0,none⟩) len len) len (Ki [] len):=by
  rw[Jhd,←toList_madeCells_one];exact hp2
 clear hp2 hg2 hk1 ht1 hb1;generalize w1.heap.size=gp at*;go_wp2_with fail
 go_loopw [4,19] (fun out ii wr=>∃(k n:Nat)(ns:List Nm),k≤len∧n≤33*k+1∧ns=(ss.take k).map lst∧ii= .int .i64 (k:Int)∧wr.ownsRow w.heap.size 5 1 out n ((Cj ns).tb.map u8v)∧wr.ownsRow w.heap.size 3 1 (.slice (some ⟨gp,0,none⟩) len len) len (Ki ns len)∧Mj wr (w.heap.size+1) (k+1) ns∧Below w.heap.size w wr) (fun _ ii _=>len - (intOf ii).toNat)
 case atStart=>exact⟨0,1, [],Ak _,Af _,rfl,rfl,ht2,hp3,hk2,hb2⟩
 case round=>
  obtain⟨k,n,ns,hk,hn,hns,rfl,hown,hpl,hkn,hb⟩:=hrel;have HN:=Aa hns;clear hns ht2 hp3 hk2 hb2;by_cases hlt:k < len
  ·obtain⟨b,off,x,rfl,hx,hc0⟩:=HM.out.at_ (i:=k) (by rw[HL.out];exact hlt);have hc:=Ax hb hc0;have HX:=Aa hx;have hI1:(k:Int) < (len:Int):=by omega
   have hI0:(0:Int)≤(k:Int):=by omega
   have hnsl:ns.length=k:=by rw[HN.out];simp;have:=HL.out;omega
   have HNL:=Aa hnsl;have hx32:=(Jet (HS.out x (Ad HX.out))).1;have hxs:(lst x).length=x.size:=by simp
   have hsz:x.size≤32:=by omega
   have hn1:(ss.take (k+1)).map lst=ns++ [lst x]:=by
    rw[List.take_add_one,HX.out,HN.out];simp
   have HN1:=Aa hn1;obtain⟨D,hD,hwho⟩:=hkn;have hkey:keyOf Tryz.prog 9 (.string x)=some (.string (lst x)):=keyOf_string_mk Tryz.underlying9 (by unfold maxLen;omega);have HW:=Aa hwho;have HK:=Aa hkey;clear hc0 hx hnsl hx32 hxs hn1 hwho hkey;rcases HW.out (lst x)with⟨hold,hhas,hatk⟩|⟨hnew,hhas⟩
   ·have HT:=Aa (Vd hold);have HO:=Aa hold;have HAT:=Aa hatk;have HAS:=Aa hhas;clear hold hatk hhas;go_wp2_with (at_lookup;refine wpList_lookup_own_ok_int wr rfl (.tmp 25) (.tmp 26) 265 rfl 9 3 .i64 Za Tryz.underlying265 Tryz.underlying3 (Jg9 _) (w.heap.size+1) (k+1) D rfl hD _ _ rfl HK.out ?_)
    intro c hat _;have hcq:c=(placeOf ns (lst x):Int):=by rw[HAT.out]at hat;simpa using hat.symm
    have HQ:Hid (placeOf ns (lst x)=placeOf (ns++ [lst x]) (lst x)):=Aa HT.out.2.symm;rw[HAS.out];clear hat;obtain⟨q,hq⟩:∃q,q=placeOf ns (lst x):=⟨_,rfl⟩
    rw[←hq]at hcq HQ;subst hcq;clear hq;have hcp:wr.cell? ⟨gp,k,none⟩=some ((Ki ns len)[k]'(by rw[Ni (by have:=HNL.out;omega)];exact hlt)):=by
     rw[hpl.cellAt k (by omega)];exact Ae _
    generalize (Ki ns len)[k]'(by rw[Ni (by have:=HNL.out;omega)];exact hlt)=u0 at hcp;have hf:=hpl.frozenAt k;have hst:=hpl.stored k (.int .i64 (q:Int));rw[show k=ns.length from HNL.out.symm,Yc (by have:=HNL.out;omega) HQ.out,HNL.out]at hst;have HST:=Aa hst;have hap:=Kq hown hpl (by decide);have HTB:Hid ((wr.setCell ⟨gp,k,none⟩ (.int .i64 (q:Int))).ownsRow w.heap.size 5 1 u4 n ((Cj (ns++ [lst x])).tb.map u8v)):=Aa (by rw[HT.out.1];exact hown.kept hst.2 hap);have HKN:Hid (Mj (wr.setCell ⟨gp,k,none⟩ (.int .i64 (q:Int))) (w.heap.size+1) (k+1+1) (ns++ [lst x])):=Aa (Jle ⟨D,hD.kept hst.2 (Pp hpl hD),HW.out⟩ HO.out);have HBL:Hid (Below w.heap.size w (wr.setCell ⟨gp,k,none⟩ (.int .i64 (q:Int)))):=Aa (hb.setCell (hpl.lt gp rfl).1 _);clear hst hap hD hown hpl hb;go_wp2_with fail
    go_roundw
    case rel=>exact⟨k+1,n,ns++ [lst x],hlt,by omega,HN1.out.symm,by go_num,HTB.out,HST.out.1,HKN.out,HBL.out⟩
    case measure=>simp[intOf];omega
   ·have HNW:Hid (lst x≠ []∧lst x∉ns):=Aa (not_or.1 hnew);have HT:=Aa (Nx (not_or.1 hnew).1 (not_or.1 hnew).2);have HAS:=Aa hhas;have hnt:(Cj ns).tb.length=n:=by have:=hown.1;simpa using this
    have HNT:=Aa hnt;obtain⟨p4,c4,rfl,_,_,_,_⟩:=Has.of_owns hown;clear hnew hhas hnt;go_wp2_with (at_lookup;refine wpList_lookup_own_ok_int wr rfl (.tmp 25) (.tmp 26) 265 rfl 9 3 .i64 Za Tryz.underlying265 Tryz.underlying3 (Jg9 _) (w.heap.size+1) (k+1) D rfl hD _ _ rfl HK.out ?_)
    intro c _ _;rw[HAS.out];go_wp2_with (at_mapUpdate;refine wpList_mapUpdate_own wr rfl (.tmp 34) (.tmp 35) (.tmp 36) 265 rfl 9 3 Za Tryz.underlying265 (plainElem Tryz.prog 3) (w.heap.size+1) (k+1) D rfl hD (by unfold maxLen;omega) _ _ _ rfl rfl HK.out _ [] (plainElem_int Tryz.underlying3 (WalkArith.wf_i64 (by omega))) ?_)
    intro w3 hD3 hg3;have hkn3:Mj w3 (w.heap.size+1) (k+1+1) (ns++ [lst x]):=Jj2 HW.out hD.isMap hD3 HNW.out.1 HNW.out.2 HNT.out.symm;have hown3:=hown.kept hg3 (Ud hown hD);have hpl3:=hpl.kept hg3 (Ud hpl hD);have hb3:Below w.heap.size w w3:=hb.grown hg3 hb.size (fun g hg=>by simp at hg;omega);clear hD3 hg3 hown hpl hD hb;have hap:=Kq hpl3 hown3 (by decide);go_wp2_with (at_builtin;refine Lib.wpList_append_own_string w3 rfl (.tmp 37) (.tmp 38) 31 9 rfl w.heap.size 5 i0 Tryz.underlying31 Tryz.underlying9 HI.out H0.out H1.out H2.out _ n _ rfl hown3 x rfl (by unfold maxLen;omega) (by omega) hb3.size ?_)
    intro v5 w5 hown5 hgrow5 _;have hpl5:=hpl3.kept hgrow5 hap;have hb5:Below w.heap.size w w5:=hb3.grown hgrow5 hb3.size (fun g hg=>(hown3.lt g hg).1);have hkn5:Mj w5 (w.heap.size+1) (k+1+1) (ns++ [lst x]):=let ⟨D3,hD3,hn3⟩:=hkn3;⟨D3,hD3.kept hgrow5 (Pp hown3 hD3),hn3⟩;rw[Ty,←List.map_append]at hown5;clear hgrow5 hpl3 hap hown3 hb3 hkn3;go_wp2_with (at_builtin;refine wpList_append_own _ rfl (.tmp 40) (.tmp 41) 31 rfl w.heap.size 5 i0 (.int .u8 0) 1 1 Tryz.underlying31 HI.out H0.out H1.out H2.out rfl (by decide) _ _ _ rfl (hown5.alloc _) ⟨w5.heap.size,0,none⟩ 1 1 [u8v 0] rfl rfl (Vq w5 0) (Jaz 0) (by unfold maxLen;omega) (by omega) (by have:=hb5.size;simp;omega) ?_)
    intro v6 w6 hown6 hgrow6 _;have hap6:=Kq (hpl5.alloc (.cells #[.int .u8 0] 5)) (hown5.alloc (.cells #[.int .u8 0] 5)) (by decide);have hpl6:=(hpl5.alloc (.cells #[.int .u8 0] 5)).kept hgrow6 hap6;have hb6:Below w.heap.size w w6:=(hb5.alloc hb5.size _).grown hgrow6 (by have:=hb5.size;simp;omega) (fun g hg=>(hown5.lt g hg).1);have hkn6:Mj w6 (w.heap.size+1) (k+1+1) (ns++ [lst x]):=let ⟨D5,hD5,hn5⟩:=hkn5;⟨D5,(hD5.alloc (.cells #[.int .u8 0] 5)).kept hgrow6 (Pp (hown5.alloc (.cells #[.int .u8 0] 5)) (hD5.alloc (.cells #[.int .u8 0] 5))),hn5⟩;rw[Jar]at hown6;clear hgrow6 hpl5 hap6 hown5 hb5 hkn5;have hcp:w6.cell? ⟨gp,k,none⟩=some ((Ki ns len)[k]'(by rw[Ni (by have:=HNL.out;omega)];exact hlt)):=by
     rw[hpl6.cellAt k (by omega)];exact Ae _
    generalize (Ki ns len)[k]'(by rw[Ni (by have:=HNL.out;omega)];exact hlt)=u0 at hcp;have hf:=hpl6.frozenAt k;have hst:=hpl6.stored k (.int .i64 (n:Int));rw[show k=ns.length from HNL.out.symm,Yc (q:=n) (by have:=HNL.out;omega) (by rw[HT.out.2,HNT.out]),HNL.out]at hst;have HST:=Aa hst;have hap7:=Kq hown6 hpl6 (by decide);have hlen6:n+x.size+1≤33*(k+1)+1:=by omega
    have HTB:Hid ((w6.setCell ⟨gp,k,none⟩ (.int .i64 (n:Int))).ownsRow w.heap.size 5 1 v6 (n+x.size+1) ((Cj (ns++ [lst x])).tb.map u8v)):=Aa (by rw[HT.out.1,List.map_append];exact hown6.kept hst.2 hap7);have HKN:Hid (Mj (w6.setCell ⟨gp,k,none⟩ (.int .i64 (n:Int))) (w.heap.size+1) (k+1+1) (ns++ [lst x])):=Aa (let ⟨D5,hD5,hn5⟩:=hkn6;⟨D5,hD5.kept hst.2 (Pp hpl6 hD5),hn5⟩);have HBL:Hid (Below w.heap.size w (w6.setCell ⟨gp,k,none⟩ (.int .i64 (n:Int)))):=Aa (hb6.setCell (hpl6.lt gp rfl).1 _);clear hst hap7 hown6 hpl6 hb6 hkn6;go_wp2_with fail
    go_roundw
    case rel=>exact⟨k+1,n+x.size+1,ns++ [lst x],hlt,hlen6,HN1.out.symm,by go_num,HTB.out,HST.out.1,HKN.out,HBL.out⟩
    case measure=>simp[intOf];omega
  ·obtain rfl:k=len:=by omega
   have ht:ss.take k=ss:=List.take_of_length_le (by rw[HL.out];exact Af _);have HNS:Hid (ns=ss.map lst):=Aa (by rw[HN.out,ht]);have hnt:(Cj ns).tb.length=n:=by have:=hown.1;simpa using this
   have hnsl:ns.length=k:=by rw[HN.out,ht];simp;exact HL.out
   rw[Jho hnsl]at hpl;have hkl:(placesOf ns).length=k:=by rw[Gb,hnsl]
   rw[←hnt]at hown;have hpl2:wr.ownsRow w.heap.size 3 1 (.slice (some ⟨gp,0,none⟩) k k) (placesOf ns).length (Hh (placesOf ns)):=by rw[hkl];exact hpl
   rw[HNS.out]at hown hpl2;clear ht hnt hkl hnsl hpl;go_wp2_with fail
   go_ret2;exact⟨_,_,rfl,hown,hpl2,hb⟩
end Go.Proofs.YteopgmieindojaaGreat
namespace Go.Proofs.YteopgmieindojaaGreat
open Go.RowKit
theorem Tryz.infoStr:(Tryz.prog.info? 9).map (fun i=>(i.zero,i.size,i.bytes))=some (some (.string ⟨#[]⟩),1,16):=by kernel_rfl
theorem Rl.of_owns{w:World}{base:Nat}{e:TypeId}{v:Value}{n:Nat}{xs:List ByteArray}(h:w.ownsRow base e 1 v n (xs.map Value.string)):
 ∃p c,v= .slice p n c∧n≤c∧c≤maxLen∧xs.length=n∧Rl w p xs:=by
 have hl:xs.length=n:=by have:=h.1;simpa using this
 rcases h.2 with⟨rfl,hn⟩|⟨g,cap,cur,rfl,_,hg,hnc,hcm,_,_⟩
 ·subst hn;have h0:xs= []:=List.eq_nil_of_length_eq_zero hl;subst h0;exact⟨none,0,rfl,Af _,Ak _,rfl,fun i x hx=>by simp at hx⟩
 ·refine⟨some ⟨g,0,none⟩,cap,rfl,hnc,hcm,hl,fun i x hx=>⟨_,rfl,?_⟩⟩;have hi:i < n:=by have:=(Ab.1 hx).1;omega
  have hc:=h.cellAt i (by omega);rw[List.getElem?_map,hx]at hc;have ha:(⟨g,0,none⟩:Addr).add i=⟨g,i,none⟩:=by unfold Addr.add;split<;>simp_all
  rw[ha];simpa using hc
theorem Pw(x:ByteArray):∀u∈ [Value.string x],u.oneCell'=true:=fun u hu=>by simp at hu;subst hu;rfl
theorem Sm(l:List ByteArray)(x:ByteArray):l.map Value.string++ [.string x]=(l++ [x]).map Value.string:=by simp
theorem Oj(w:World)(g:Nat)(v0 v1 v2 v3 v4 v5:Value)(T:TypeId)(h:w.heap[g]?=some (.cells #[v0,v1,v2,v3,v4,v5] T (0,0))):
 w.cell? ⟨g,0,none⟩=some v0∧w.cell? ⟨g,1,none⟩=some v1∧w.cell? ⟨g,2,none⟩=some v2∧w.cell? ⟨g,3,none⟩=some v3∧w.cell? ⟨g,4,none⟩=some v4∧w.cell? ⟨g,5,none⟩=some v5:=by
 refine⟨?_,?_,?_,?_,?_,?_⟩<;>exact(Am w g _ _ _ (0,0) h).trans rfl
theorem Dd(w:World)(o:Obj):(w.alloc o).heap[w.heap.size]?=some o:=Ah w o
end Go.Proofs.YteopgmieindojaaGreat
