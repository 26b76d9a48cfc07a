/- Parts of a proof. -/
import Derived.Test.YteopgmieindojaaGreatGX13
import Derived.Test.YteopgmieindojaaGreatGX11
import Derived.Maps.RangeRun
import Derived.Carry
import Derived.Test.YteopgmieindojaaGreatGX01
import Derived.Maps.Own
import Derived.Maps.OwnOps
import Derived.OwnWalk
import Derived.Test.YteopgmieindojaaGreatGX12
import Derived.Sort.MapsRangeIn
import Derived.RangeFuncBox
import Derived.RangeFuncBound
import Derived.RangeFuncCalls
import Derived.RangeFuncLeaves
import Derived.RangeFuncMany
import Derived.Shelf.Abstract
import Derived.TacticsInMore
import Derived.LoopNIn
import Derived.LoopIn
import Derived.RangeFuncNested
import Derived.Shelf.RegionOpen
import Derived.WalkKit
import Derived.OwnWalkIn
import Derived.Maps.AppendAt
import Derived.Shelf.SlSortCmp.NoneTotal
import Derived.Shelf.SlGeneric
import Derived.Ground.SlsfProg
import Derived.Test.YteopgmieindojaaGreatChecked
set_option maxRecDepth 1000000
set_option maxHeartbeats 8000000
namespace Go.Proofs.YteopgmieindojaaGreat
open Go.RowKit
def Jjp(es:List Et)(n:Int)(w:World)(e:Ending)(w':World):Prop:=∃v,e= .returned (.tuple #[v,Fk n])∧(n=0∧w'.ownsRow w.heap.size 92 5 v es.length (es.flatMap Il)∨n≠0∧v= .slice none 0 0)∧Below w.heap.size w w'
theorem Tryz.infoEdge:(Tryz.prog.info? 92).map (fun i=>(i.zero,i.size,i.bytes))=some (some (.agg (Jj eZ)),5,40):=by kernel_rfl
theorem Jie(v0 v1 v2 v3:Value)(q0 q1 q2 q3:Option Addr)(m0 d0 m1 d1 m2 d2 m3 d3:Nat)(hv0:v0= .slice q0 m0 d0)(hv1:v1= .slice q1 m1 d1)(hv2:v2= .slice q2 m2 d2)(hv3:v3= .slice q3 m3 d3)(i:Nat)(pr:Option Addr)(cr:Nat)(rels:List Ea)(f:Ea→Et × Int)(w:World)(hr:Bg 4 Hk w pr rels)(hlen:rels.length≤1000)
 (hedge:∀r∈rels,∀W,Below w.heap.size w W→Calls Tryz.prog 198 #[.agg #[v0,v1,v2,v3],.int .i64 (i:Int),.agg #[.int .i64 r.off,.int .i64 r.type,.int .i64 r.sym,.int .i64 r.add]] W fun e w'=>e= .returned (.tuple #[.agg (Jj (f r).1),Fk (f r).2])∧Below W.heap.size W w'):
 Calls Tryz.prog 164 #[.agg #[v0,v1,v2,v3],.int .i64 (i:Int),.slice pr rels.length cr] w (Jjp (rels.map fun r=>(f r).1) (Bw (rels.map fun r=>(f r).2)) w):=by
 subst hv0 hv1 hv2 hv3;obtain⟨i0,hi,hz0,hz1,hz2⟩:=info_parts Tryz.infoEdge;have HI:=Aa hi;have H0:=Aa hz0;have H1:=Aa hz1;have H2:=Aa hz2;have ha:Below w.heap.size w (w.alloc (.cells #[.slice q0 m0 d0,.slice q1 m1 d1,.slice q2 m2 d2,.slice q3 m3 d3] 154)):=(Ag _ w).alloc (Af _) _;have hB:=Ah w (.cells #[.slice q0 m0 d0,.slice q1 m1 d1,.slice q2 m2 d2,.slice q3 m3 d3] 154);have HR:=Aa fun W (hW:Below w.heap.size w W)=>hr.below Hk.keeps hW;have HED:=Aa hedge;obtain⟨rn,hrn⟩:∃rn,rn=rels.length:=⟨_,rfl⟩
 have HRN:=Aa hrn;rw[←hrn]at hlen⊢;generalize hgb:w.heap.size=gb at*;have HGB:=Aa hgb;have HA:=Aa ha;clear hi hz0 hz1 hz2 hr hedge hrn hgb ha;go_enter Tryz.func164,Tryz.ntmps164;go_upto_region 1 with fail
 generalize w.alloc (.cells #[.slice q0 m0 d0,.slice q1 m1 d1,.slice q2 m2 d2,.slice q3 m3 d3] 154)=w1 at*;rw[HGB.out];go_wp2_with fail
 go_loopw [8,15,10,11,12] (fun r8 r15 _ _ _ wr=>∃k:Nat,r15= .int .i64 (k:Int)∧k≤rn∧wr.ownsRow gb 92 5 r8 k (((rels.take k).map fun r=>(f r).1).flatMap Il)∧Bw ((rels.take k).map fun r=>(f r).2)=0∧wr.heap[gb]?=some (.cells #[.slice q0 m0 d0,.slice q1 m1 d1,.slice q2 m2 d2,.slice q3 m3 d3] 154 (0,0))∧Below gb w wr) (fun _ r15 _ _ _ _=>rn - (intOf r15).toNat)
 case atStart=>exact⟨0,rfl,Ak _,Aq _ _ _ _,rfl,hB,HA.out⟩
 case round=>
  obtain⟨k,rfl,hk,hown,hz,hBr,hb⟩:=hrel;have HOWN:=Aa hown;have HZ:=Aa hz;clear hB hz hown;by_cases hlt:k < rn
  ·obtain⟨b5,o5,r,hpe,hrk,hr0,hr1,hr2,hr3⟩:=(HR.out wr (by first|exact hb|(rw[HGB.out];exact hb))).at_ (i:=k) (by rw[←HRN.out];exact hlt);have x0:=hr0.1;have x1:=hr1.1;have x2:=hr2.1;have x3:=hr3.1;subst hpe;have HRK:=Aa hrk;have hed:=HED.out r (Ad hrk);obtain⟨⟨E0,E1,E2,E3,E4⟩,en,hfr⟩:∃(E:Et)(n:Int),f r=(E,n):=⟨_,_,rfl⟩
   rw[hfr]at hed;have HFR:=Aa hfr;have HED1:=Aa hed;have j1:(k:Int) < (rn:Int):=by omega
   have j0:(0:Int)≤(k:Int):=by omega
   clear hr0 hr1 hr2 hr3 hrk hed hfr;go_upto_region 5 with fail
   have hL:=Ah wr (.cells #[.int .i64 r.off,.int .i64 r.type,.int .i64 r.sym,.int .i64 r.add] 94);have hbL:Below wr.heap.size wr (wr.alloc (.cells #[.int .i64 r.off,.int .i64 r.type,.int .i64 r.sym,.int .i64 r.add] 94)):=(Ag _ wr).alloc (Af _) _;have hgr:gb < wr.heap.size:=(Ac.1 hBr).1;generalize wr.alloc (.cells #[.int .i64 r.off,.int .i64 r.type,.int .i64 r.sym,.int .i64 r.add] 94)=w2 at*;have hB2:=(hbL.block gb hgr).trans hBr;have hb2:Below gb w w2:=hb.trans (hbL.mono (Ar hgr));have hown2:=Bd HOWN.out hbL;generalize wr.heap.size=g2 at*;obtain⟨y0,y1,y2,y3⟩:=Cp _ _ _ _ _ _ _ hB2;obtain⟨z0,z1,z2,z3⟩:=Cp _ _ _ _ _ _ _ hL;have HC:=Aa (HED1.out w2 (by first|exact hb2|(rw[HGB.out];exact hb2)));have HB2:=Aa hB2;have HBW2:=Aa hb2;have HOWN2:=Aa hown2;clear x0 x1 x2 x3 hL hbL hB2 hb2 hown2 hb hBr
   have HSP:Hid (Bw (rels.map fun r=>(f r).2)=if en=0 then Bw ((rels.drop (k+1)).map fun r=>(f r).2)else en):=Aa (by
    have hk2:=(Ab.1 HRK.out)
    have e1:rels=rels.take k++r::rels.drop (k+1):=by
     rw[←hk2.2,←List.drop_eq_getElem_cons hk2.1,List.take_append_drop]
    conv=>lhs;rw[e1]
    rw[List.map_append,Dx,if_pos HZ.out,List.map_cons];show(if(f r).2=0 then Bw ((rels.drop (k+1)).map fun r=>(f r).2)else(f r).2)=_
    rw[HFR.out])
   by_cases hc:en=0
   ·subst hc;have HWX:Hid (Calls Tryz.prog 198 #[.agg #[.slice q0 m0 d0,.slice q1 m1 d1,.slice q2 m2 d2,.slice q3 m3 d3],.int .i64 (i:Int),.agg #[.int .i64 r.off,.int .i64 r.type,.int .i64 r.sym,.int .i64 r.add]] w2 fun e w'=>e= .returned (.tuple #[.agg #[.int .i64 E0,.int .i64 E1,.int .i64 E2,.int .i64 E3,.int .i64 E4],.nilIface])∧Below w2.heap.size w2 w'):=Aa HC.out
    go_upto_region 6 with(first|(go_at_call 198
                                 refine HWX.out.mono ?_
                                 rintro e w3 ⟨rfl,hb3⟩)|fail)
    have hE4:=Ah w3 (.cells #[.int .i64 E0,.int .i64 E1,.int .i64 E2,.int .i64 E3,.int .i64 E4] 92);have hb4:Below w2.heap.size w2 (w3.alloc (.cells #[.int .i64 E0,.int .i64 E1,.int .i64 E2,.int .i64 E3,.int .i64 E4] 92)):=hb3.alloc hb3.size _;generalize w3.alloc (.cells #[.int .i64 E0,.int .i64 E1,.int .i64 E2,.int .i64 E3,.int .i64 E4] 92)=w4 at*;generalize w3.heap.size=g4 at*;have hgr2:gb < w2.heap.size:=(Ac.1 HB2.out).1;have hB4:=(hb4.block gb hgr2).trans HB2.out;have hbw4:Below gb w w4:=HBW2.out.trans (hb4.mono (Ar hgr2));obtain⟨⟨k0,k1,k2,k3,k4⟩,_⟩:=Ga _ _ _ _ _ _ _ _ hE4;have hown4:=Bd HOWN2.out hb4;obtain⟨po,co,rfl,_⟩:=Bl hown4;have hgb4:gb≤w4.heap.size:=Ar (Ac.1 hB4).1;have HBW4:=Aa hbw4;have HB4:=Aa hB4;clear y0 y1 y2 y3 z0 z1 z2 z3 hb3 hb4 hbw4 hB4 hE4;go_wp2_with (at_builtin;refine wpList_append_own _ rfl (.tmp 29) (.tmp 31) 84 rfl gb 92 i0 (.agg (Jj eZ)) 5 40 Tryz.underlying84 HI.out H0.out H1.out H2.out rfl (by decide) _ _ _ rfl (hown4.alloc _) ⟨w4.heap.size,0,none⟩ 1 1 [.int .i64 E0,.int .i64 E1,.int .i64 E2,.int .i64 E3,.int .i64 E4] rfl rfl (Rd w4 [.int .i64 E0,.int .i64 E1,.int .i64 E2,.int .i64 E3,.int .i64 E4] _) (by intro u hu;simp only[List.mem_cons,List.not_mem_nil,or_false]at hu;rcases hu with rfl|rfl|rfl|rfl|rfl<;>rfl) (by unfold maxLen;omega) (by omega) (by simp;omega) ?_)
    intro v1 wb hown1 hgrow1 _;have hba:Below w4.heap.size w4 (w4.alloc (.cells #[.int .i64 E0,.int .i64 E1,.int .i64 E2,.int .i64 E3,.int .i64 E4] 92)):=(Ag _ w4).alloc (Af _) _;have hfrb:FrT gb [92] w4 wb:=(FrT.of_below hba).trans (FrT.grown (hown4.alloc _) hgrow1 (by simp) (Af _))
    have HOWNB:Hid (wb.ownsRow gb 92 5 v1 (k+1) (((rels.take (k+1)).map fun r=>(f r).1).flatMap Il)):=Aa (by
     rw[Hm HRK.out,List.map_append,List.flatMap_append];have:([r].map fun r=>(f r).1).flatMap Il= [.int .i64 E0,.int .i64 E1,.int .i64 E2,.int .i64 E3,.int .i64 E4]:=by
      simp only[List.map_cons,List.map_nil,HFR.out];rfl
     rw[this,List.map_take]
     exact hown1)
    have HZB:Hid (Bw ((rels.take (k+1)).map fun r=>(f r).2)=0):=Aa (by
     rw[Hm HRK.out,List.map_append,Dx,if_pos HZ.out];simp only[List.map_cons,List.map_nil,HFR.out]
     rfl)
    have HBB:=Aa (hfrb.heap HB4.out (by decide));have HBWB:=Aa (HBW4.out.trans (hfrb.below hgb4));clear hba hfrb hown1 hgrow1 hown4 k0 k1 k2 k3 k4;go_wp2_with fail
    go_roundw
    case rel=>exact⟨k+1,by go_num,hlt,HOWNB.out,HZB.out,HBB.out,HBWB.out⟩
    case measure=>simp[intOf];omega
   ·have HWX:Hid (Calls Tryz.prog 198 #[.agg #[.slice q0 m0 d0,.slice q1 m1 d1,.slice q2 m2 d2,.slice q3 m3 d3],.int .i64 (i:Int),.agg #[.int .i64 r.off,.int .i64 r.type,.int .i64 r.sym,.int .i64 r.add]] w2 fun e w'=>e= .returned (.tuple #[.agg #[.int .i64 E0,.int .i64 E1,.int .i64 E2,.int .i64 E3,.int .i64 E4],.iface 36 (.int .i64 en)])∧Below w2.heap.size w2 w'):=Aa (HC.out.mono fun e w' ⟨h1,h2⟩=>⟨by rw[h1];unfold Fk;rw[if_neg hc],h2⟩)
    go_upto_region 6 with(first|(go_at_call 198
                                 refine HWX.out.mono ?_
                                 rintro e w3 ⟨rfl,hb3⟩)|fail)
    have hE4:=Ah w3 (.cells #[.int .i64 E0,.int .i64 E1,.int .i64 E2,.int .i64 E3,.int .i64 E4] 92);have hb4:Below w2.heap.size w2 (w3.alloc (.cells #[.int .i64 E0,.int .i64 E1,.int .i64 E2,.int .i64 E3,.int .i64 E4] 92)):=hb3.alloc hb3.size _;generalize w3.alloc (.cells #[.int .i64 E0,.int .i64 E1,.int .i64 E2,.int .i64 E3,.int .i64 E4] 92)=w4 at*;generalize w3.heap.size=g4 at*;have hgr2:gb < w2.heap.size:=(Ac.1 HB2.out).1;have hB4:=(hb4.block gb hgr2).trans HB2.out;have hbw4:Below gb w w4:=HBW2.out.trans (hb4.mono (Ar hgr2));clear y0 y1 y2 y3 z0 z1 z2 z3 hb3 hb4 hB4 hE4;go_wp2_with fail
    go_ret2;have hfe:Bw (rels.map fun r=>(f r).2)=en:=by rw[HSP.out,if_neg hc]
    exact⟨_,by rw[hfe];unfold Fk;rw[if_neg hc];rfl,.inr ⟨by rw[hfe];exact hc,rfl⟩,by first|exact hbw4|(rw[HGB.out];exact hbw4)⟩
  ·have hE:Hid (rels.take k=rels):=Aa (List.take_of_length_le (by rw[←HRN.out];omega));have j1:¬(k:Int) < (rn:Int):=by omega
   obtain rfl:k=rn:=by omega
   have HB:=Aa hb;clear hb;go_wp2_with fail
   go_ret2;have hz0:=HZ.out;rw[hE.out]at hz0;have ho:=HOWN.out;rw[hE.out]at ho;refine⟨_,by rw[hz0];rfl,.inl ⟨hz0,?_⟩,by first|exact HB.out|(rw[HGB.out];exact HB.out)⟩;rw[List.length_map,←HRN.out,HGB.out];exact ho
end Go.Proofs.YteopgmieindojaaGreat
namespace Go.Proofs.YteopgmieindojaaGreat
open Go.ChangeMaps Go.RowKit
def En(w:World)(B:Nat)(m:List (ByteArray × Value)):Prop:=∃es clock,w.heap[B]?=some (.map es clock)∧es.toList.map (fun e=>(e.key,e.val))=m.map (fun p=>(Value.string p.1,p.2))∧(es.toList.map (·.born)).Nodup∧∀e∈es.toList,e.born < clock
def mAt(s:ByteArray):List (ByteArray × Value)→Nat→Option (Nat × Value)
 | [],_=>none
 |p::r,i=>bif s==p.1 then some (i,p.2)else mAt s r (i+1)
theorem En.made(w:World):En (w.alloc (.map #[] 0)) w.heap.size []:=⟨#[],0,Ah w _,rfl,by simp,by simp⟩
theorem En.lt{w:World}{B:Nat}{m:List (ByteArray × Value)}(h:En w B m):B < w.heap.size:=by
 obtain⟨es,c,hb,_⟩:=h;exact(Ac.1 hb).1
theorem En.below{w w':World}{B:Nat}{m:List (ByteArray × Value)}(h:En w B m)(hb:Below w.heap.size w w'):En w' B m:=by
 have hl:=h.lt;obtain⟨es,c,h1,h2⟩:=h;exact⟨es,c,(hb.block B hl).trans h1,h2⟩
theorem En.block{w w':World}{B:Nat}{m:List (ByteArray × Value)}(h:En w B m)(hb:w'.heap[B]?=w.heap[B]?):En w' B m:=by
 obtain⟨es,c,h1,h2⟩:=h;exact⟨es,c,hb.trans h1,h2⟩
theorem Wa(s:ByteArray):∀(es:List MapEntry)(m:List (ByteArray × Value))(i:Nat),es.map (fun e=>(e.key,e.val))=m.map (fun p=>(Value.string p.1,p.2))→Instr.findNow .string (.string s) es i=some (mAt s m i)
 | [], [],_,_=>rfl
 | [],_::_,_,h=>by simp at h
 |_::_, [],_,h=>by simp at h
 |e::es,p::m,i,h=>by
  simp only[List.map_cons,List.cons.injEq,Prod.mk.injEq]at h;obtain⟨⟨h1,h2⟩,h3⟩:=h;unfold Instr.findNow mAt;rw[h1,h2,Wa s es m (i+1) h3];show(match some (s==p.1)with|some true=>_|some false=>_|none=>_)=_;cases s==p.1<;>rfl
section
variable {P:Program} {w:World} {B:Nat} {m:List (ByteArray × Value)} {t k e:TypeId}
theorem Hd(s:ByteArray)(hk:P.underlying k=some .string){es:List MapEntry}(h:es.map (fun e=>(e.key,e.val))=m.map (fun p=>(Value.string p.1,p.2))):(Instr.findKey k (.string s) es).run P w= .ok (mAt s m 0) w:=by
 unfold Instr.findKey;simp[run_underlying hk,Wa s es m 0 h,Result.andThen]
theorem Gs(s:ByteArray)(b:Bool)(hk:P.underlying k=some .string):(Instr.checkKey b 10000 k (.string s)).run P w= .ok () w:=by
 unfold Instr.checkKey;simp[run_underlying hk,Result.andThen]
theorem En.look(h:En w B m)(s:ByteArray)(ht:P.underlying t=some (.map k e))(hk:P.underlying k=some .string){z:Value}(hz:(zeroValue e).run P w= .ok z w):
 (Instr.lookup t (.map (some B)) (.string s) true).run P w= .ok (.tuple #[((mAt s m 0).map (·.2)).getD z,.bool (mAt s m 0).isSome]) w:=by
 obtain⟨es,c,h1,h2,_⟩:=h;unfold Instr.lookup;cases hq:mAt s m 0 with
 |none=>simp[run_underlying ht,MapKept.run_getObj_map h1,Gs s _ hk,Hd s hk h2,hq,hz,Result.andThen]
 |some p=>simp[run_underlying ht,MapKept.run_getObj_map h1,Gs s _ hk,Hd s hk h2,hq,Result.andThen]
theorem En.get(h:En w B m)(s:ByteArray)(ht:P.underlying t=some (.map k e))(hk:P.underlying k=some .string){z:Value}(hz:(zeroValue e).run P w= .ok z w):
 (Instr.lookup t (.map (some B)) (.string s) false).run P w= .ok (((mAt s m 0).map (·.2)).getD z) w:=by
 obtain⟨es,c,h1,h2,_⟩:=h;unfold Instr.lookup;cases hq:mAt s m 0 with
 |none=>simp[run_underlying ht,MapKept.run_getObj_map h1,Gs s _ hk,Hd s hk h2,hq,hz,Result.andThen]
 |some p=>simp[run_underlying ht,MapKept.run_getObj_map h1,Gs s _ hk,Hd s hk h2,hq,Result.andThen]
def Uv(m:List (ByteArray × Value))(s:ByteArray)(v:Value):List (ByteArray × Value):=match mAt s m 0 with
 |some (i,_)=>m.set i (s,v)
 |none=>m++ [(s,v)]
theorem Td{s:ByteArray}:∀{m:List (ByteArray × Value)}{i j:Nat}{v:Value},mAt s m i=some (j,v)→∃n,j=i+n∧∃q,m[n]?=some (q,v)∧(s==q)=true
 | [],_,_,_,h=>by cases h
 |p::m,i,j,v,h=>by
  unfold mAt at h;cases hp:s==p.1 with
  |true=>rw[hp]at h;cases h;exact⟨0,rfl,p.1,rfl,hp⟩
  |false=>
   rw[hp]at h;obtain⟨n,h1,q,h2,h3⟩:=Td h;exact⟨n+1,by omega,q,by simpa using h2,h3⟩
theorem Sp(a b:ByteArray)(h:(a==b)=true):(Instr.keyThatStays (.string a) (.string b)).run P w= .ok (.string b) w:=by
 unfold Instr.keyThatStays;have:Instr.sameBits 10000 (.string a) (.string b)=true:=by unfold Instr.sameBits;exact h
 rw[this];rfl
theorem Jpc{es:List MapEntry}{m:List (ByteArray × Value)}(h:es.map (fun e=>(e.key,e.val))=m.map (fun p=>(Value.string p.1,p.2)))(n:Nat)(s:ByteArray)(v:Value):
 (es.modify n fun e=>{e with key:= .string s,val:=v}).map (fun e=>(e.key,e.val))=(m.set n (s,v)).map (fun p=>(Value.string p.1,p.2)):=by
 rw[List.map_set,←h];apply List.ext_getElem?;intro i;rw[List.getElem?_map,List.getElem?_modify,List.getElem?_set,List.getElem?_map,List.length_map];by_cases hi:n=i
 ·subst hi;cases hq:es[n]? with
  |none=>rw[if_pos rfl,if_neg (by have:=List.getElem?_eq_none_iff.1 hq;omega)];rfl
  |some x=>rw[if_pos rfl,if_pos (Ab.1 hq).1];simp
 ·rw[if_neg hi];cases es[i]?<;>simp[hi]
theorem Vt(es:List MapEntry)(n:Nat)(s:ByteArray)(v:Value):(es.modify n fun e=>{e with key:= .string s,val:=v}).map (·.born)=es.map (·.born):=by
 apply List.ext_getElem?;intro i;rw[List.getElem?_map,List.getElem?_modify,List.getElem?_map];cases es[i]? with
 |none=>rfl
 |some x=>by_cases h:n=i<;>simp[h]
theorem En.put(h:En w B m)(s:ByteArray)(v:Value)(ht:P.underlying t=some (.map k e))(hk:P.underlying k=some .string):
 ∃w',(Instr.mapUpdate t (.map (some B)) (.string s) v).run P w= .ok () w'∧En w' B (Uv m s v)∧w.grownBy w' (some B):=by
 obtain⟨es,c,h1,h2,h3,h4⟩:=h;have hgr:∀o,w.grownBy (setBlock w B o) (some B):=fun o=>⟨rfl,rfl,rfl,by simp[setBlock],fun i _ hi=>heap_setBlock_other h1 _ (fun e=>hi (by rw[e]))⟩
 unfold Instr.mapUpdate Uv;cases hq:mAt s m 0 with
 |none=>
  refine⟨setBlock w B (.map (es.push {key:= .string s,val:=v,born:=c}) (c+1)),?_,⟨_,_,heap_setBlock_same h1 _,?_,?_,?_⟩,hgr _⟩
  ·simp[run_underlying ht,MapKept.run_getObj_map h1,Gs s _ hk,Hd s hk h2,hq,MapKept.run_setObj_map _ h1,Result.andThen,setBlock]
  ·rw[Array.toList_push,List.map_append,h2,List.map_append];rfl
  ·rw[Array.toList_push,List.map_append,List.nodup_append];refine⟨h3,by simp,fun a ha b hb=>?_⟩;obtain⟨x,hx,rfl⟩:=List.mem_map.1 ha;simp at hb;subst hb;have:=h4 x hx;omega
  ·intro x hx;rw[Array.toList_push]at hx;rcases List.mem_append.1 hx with hx|hx
   ·have:=h4 x hx;omega
   ·obtain rfl:=List.mem_singleton.1 hx;show c < c+1;omega
 |some p=>
  obtain⟨n,u⟩:=p;obtain⟨n',e1,q,hn,hs⟩:=Td hq;rw[Nat.zero_add]at e1;subst e1;have hlen:es.toList.length=m.length:=by have:=congrArg List.length h2;simpa using this
  have hnl:n < es.toList.length:=by rw[hlen];exact(Ab.1 hn).1
  have hkey:(es[n]?).map (·.key)=some (.string q):=by
   have:=congrArg (fun l=>(l[n]?).map Prod.fst) h2;simp only[List.getElem?_map,hn,Option.map_some]at this;rw[←Array.getElem?_toList];cases hx:es.toList[n]? with
   |none=>rw[hx]at this;cases this
   |some x=>rw[hx]at this;simpa using this
  have hqs:(q==s)=true:=by rw[MapKept.bytes_beq]at hs⊢;exact hs.symm
  refine⟨setBlock w B (.map (es.modify n fun e=>{e with key:= .string s,val:=v}) c),?_,⟨_,_,heap_setBlock_same h1 _,?_,?_,?_⟩,hgr _⟩
  ·simp[run_underlying ht,MapKept.run_getObj_map h1,Gs s _ hk,Hd s hk h2,hq,hkey,Sp q s hqs,MapKept.run_setObj_map _ h1,Result.andThen,setBlock]
  ·rw[Array.toList_modify];exact Jpc h2 n s v
  ·rw[Array.toList_modify,Vt];exact h3
  ·intro x hx;rw[Array.toList_modify]at hx;have hb:x.born∈(es.toList.modify n fun e=>{e with key:= .string s,val:=v}).map (·.born):=List.mem_map_of_mem hx;rw[Vt]at hb;obtain⟨y,hy,e⟩:=List.mem_map.1 hb;rw[←e];exact h4 y hy
end
def Gy(s:ByteArray):List (ByteArray × Value)→Option Value
 | []=>none
 |p::r=>bif s==p.1 then some p.2 else Gy s r
theorem Ry(s:ByteArray):∀(m:List (ByteArray × Value))(i:Nat),(mAt s m i).map (·.2)=Gy s m
 | [],_=>rfl
 |p::r,i=>by
  unfold mAt Gy;cases s==p.1 with
  |true=>rfl
  |false=>exact Ry s r (i+1)
theorem Jcs(s:ByteArray):(s==s)=true:=(MapKept.bytes_beq s s).2 rfl
theorem Ja0(t s:ByteArray)(v:Value):∀m:List (ByteArray × Value),Gy s m=none→Gy t (m++ [(s,v)])=bif t==s then some v else Gy t m
 | [],_=>by
   show(bif t==s then some v else none)=_;rfl
 |p::r,h=>by
  unfold Gy at h;cases hp:s==p.1 with
  |true=>rw[hp]at h;cases h
  |false=>
   rw[hp]at h;have ih:=Ja0 t s v r h;show(bif t==p.1 then some p.2 else Gy t (r++ [(s,v)]))=bif t==s then some v else bif t==p.1 then some p.2 else Gy t r
   rw[ih];cases ht:t==s with
   |false=>rfl
   |true=>
    obtain rfl:=(MapKept.bytes_beq t s).1 ht;rw[hp];rfl
theorem Jcu(t s:ByteArray)(v:Value):∀(m:List (ByteArray × Value))(i n:Nat)(u:Value),mAt s m i=some (i+n,u)→Gy t (m.set n (s,v))=bif t==s then some v else Gy t m
 | [],_,_,_,h=>by cases h
 |p::r,i,n,u,h=>by
  unfold mAt at h;cases hp:s==p.1 with
  |true=>
   rw[hp]at h;simp only[cond_true,Option.some.injEq,Prod.mk.injEq]at h;obtain rfl:n=0:=by omega
   show(bif t==s then some v else Gy t r)=bif t==s then some v else bif t==p.1 then some p.2 else Gy t r
   rw[←(MapKept.bytes_beq _ _).1 hp];cases t==s<;>rfl
  |false=>
   rw[hp]at h;simp only[cond_false]at h;obtain⟨k,hk,_⟩:=Td h;obtain⟨n',rfl⟩:∃n',n=n'+1:=⟨n - 1,by omega⟩
   have ih:=Jcu t s v r (i+1) n' u (by rw[h,show i+(n'+1)=i+1+n' by omega]);show(bif t==p.1 then some p.2 else Gy t (r.set n' (s,v)))=bif t==s then some v else bif t==p.1 then some p.2 else Gy t r
   rw[ih];cases ht:t==s with
   |false=>rfl
   |true=>
    obtain rfl:=(MapKept.bytes_beq t s).1 ht;rw[hp];rfl
theorem Jl8(t s:ByteArray)(v:Value)(m:List (ByteArray × Value)):Gy t (Uv m s v)=bif t==s then some v else Gy t m:=by
 unfold Uv;cases hq:mAt s m 0 with
 |none=>exact Ja0 t s v m (by rw[←Ry s m 0,hq];rfl)
 |some x=>
  obtain⟨n,u⟩:=x;exact Jcu t s v m 0 n u (by rw[hq,Nat.zero_add])
section
variable {P:Program}
theorem Sk(w:World){ops:Array Oper}{rest:List Oper}{o:Oper}{a:Act}{Q:Exit→Act→World→Prop}
 (hg:o.guard=none)(m x:Operand)(t:TypeId)(hop:o.op=Op.lookup t m x true)(k e:TypeId)(ht:P.underlying t=some (.map k e))(hk:P.underlying k=some .string)(z:Value)(hz:∀w,(zeroValue e).run P w= .ok z w)
 (b:Nat)(ml:List (ByteArray × Value))(hm:a.eval m= .map (some b))(h:En w b ml)(s:ByteArray)(hx:a.eval x= .string s)
 (hK:wpList P ops Q rest (a.put o.dst (.tuple #[(Gy s ml).getD z,.bool (Gy s ml).isSome])) w):wpList P ops Q (o::rest) a w:=by
 refine wpList_plain hg fun K' hK'=>?_;have hrun:=h.look s ht hk (hz w);rw[Ry,show(mAt s ml 0).isSome=(Gy s ml).isSome by rw[←Ry s ml 0];cases mAt s ml 0<;>rfl]at hrun;unfold Oper.wp;simp[execOp,hop,hm,hx,hrun,Result.andThen];exact hK' _ _ hK
theorem Kf(w:World){ops:Array Oper}{rest:List Oper}{o:Oper}{a:Act}{Q:Exit→Act→World→Prop}
 (hg:o.guard=none)(m x v:Operand)(t:TypeId)(hop:o.op=Op.mapUpdate t m x v)(k e:TypeId)(ht:P.underlying t=some (.map k e))(hk:P.underlying k=some .string)
 (b:Nat)(ml:List (ByteArray × Value))(hm:a.eval m= .map (some b))(h:En w b ml)(s:ByteArray)(hx:a.eval x= .string s)(val:Value)(hv:a.eval v=val)
 (hK:∀w',En w' b (Uv ml s val)→w.grownBy w' (some b)→wpList P ops Q rest (a.put o.dst undef) w'):wpList P ops Q (o::rest) a w:=by
 refine wpList_plain hg fun K' hK'=>?_;obtain⟨w',hrun,r1,r2⟩:=h.put s val ht hk;unfold Oper.wp;simp[execOp,hop,hm,hx,hv,hrun,Result.andThen];exact hK' _ _ (hK w' r1 r2)
end
end Go.Proofs.YteopgmieindojaaGreat
namespace Go.Proofs.YteopgmieindojaaGreat
open Go.RowKit
def Hr(defs:List Bb)(x:Sy):Bool:=x.2.2.bind != 1 || (Hc defs x.2.2.name).isSome
theorem Jm1{α:Type}{f:Az→List α}{l:List Az}{i k:Nat}{o:Az}{x:α}(q:Nat × Nat × α→Bool)(ho:l[i]?=some o)(hx:(f o)[k]?=some x):(Bo f l i (k+1)).all q=((Bo f l i k).all q&&q (i,k,x)):=by
 rw[Fp ho hx,List.all_append];simp
theorem Joy{α:Type}{f:Az→List α}{l:List Az}{i k:Nat}{o:Az}{x:α}{q:Nat × Nat × α→Bool}(ho:l[i]?=some o)(hx:(f o)[k]?=some x)(hq:q (i,k,x)=false):(Bc f l l.length).all q=false:=by
 rw[List.all_eq_false];exact⟨(i,k,x),Gh.2 ⟨(Ab.1 ho).1,o,ho,hx⟩,by rw[hq];simp⟩
theorem Zf(p pf:Option Addr)(c nf cf:Nat)(vD:Value)(l:List Az)(defs:List Bb)(w:World)(h:Bg 5 Cg w p l)(hok:∀o∈l,OkD o)(hlc:l.length≤1000)
 (hf:Bg 3 Dg w pf defs)(hfn:defs.length=nf)(hfb:nf≤100000)(hfs:Dz defs):
 Calls Tryz.prog 55 #[.slice p l.length c,.agg #[vD,.slice pf nf cf]] w fun e w'=>e= .returned (.bool ((Bc Az.syms l l.length).all (Hr defs)))∧Below w.heap.size w w':=by
 obtain⟨wa,hwa⟩:∃wa,wa=w.alloc (.cells #[vD,.slice pf nf cf] 49):=⟨_,rfl⟩
 have ha:Below w.heap.size w wa:=by rw[hwa];exact(Ag _ w).alloc (Af _) _
 have sa:wa.heap.size=w.heap.size+1:=by rw[hwa];simp
 have hA0:wa.heap[w.heap.size]?=some (.cells #[vD,.slice pf nf cf] 49 (0,0)):=by rw[hwa];exact Ah w _
 obtain⟨r,hr⟩:∃r,r=(Bc Az.syms l l.length).all (Hr defs):=⟨_,rfl⟩
 rw[←hr];have HR:=Aa hr;have HWA:=Aa hwa;have HA0:=Aa hA0;have HA:=Aa ha;have HSA:=Aa sa;have HH:=Aa h;have HOK:=Aa hok;have HFI:=Aa fun W (hW:Below w.heap.size w W)(name:ByteArray)=>Jba pf nf cf vD defs name W (hf.below Dg.keeps hW) hfn hfb hfs;have HOUT:=Aa fun(i k:Nat)(o:Az)(x:Ct)(ho:l[i]?=some o)(hx:o.syms[k]?=some x) hq=>Joy (f:=Az.syms) (q:=Hr defs) ho hx hq;generalize hln:l.length=ln at*;have HLN:=Aa hln;clear h hok hwa ha sa hA0 hr hf hfn hfs hln;go_enter Tryz.func55,Tryz.ntmps55;go_upto_region 1 with fail
 rw[←HWA.out];clear HWA;generalize hgb:w.heap.size=gb at*;have HGB:=Aa hgb;clear hgb;go_wp2_with fail
 go_loopw [13] (fun r13 wr=>∃i:Nat,i≤ln∧r13= .int .i64 (i:Int)∧(Bc Az.syms l i).all (Hr defs)=true∧Below (gb+1) wa wr) (fun r13 _=>ln - (intOf r13).toNat)
 case atStart=>exact⟨0,Ak _,rfl,rfl,by rw[←HSA.out];exact Ag _ _⟩
 case round=>
  obtain⟨i,hi,rfl,hall,hbr⟩:=hrel;have HALL:=Aa hall;have hbw:Below gb w wr:=HA.out.trans (hbr.mono (by omega));clear hall;by_cases hlt:i < ln
  ·obtain⟨o,ho⟩:∃o,l[i]?=some o:=⟨_,Ae (by rw[HLN.out];exact hlt)⟩
   obtain⟨b,off,p0,p1,p2,p4,c0,c1,c2,c4,hpe,e0,e1,e2,e3,e4,_,hsy0,_⟩:=Du (HH.out.below Cg.keeps (show Below w.heap.size w wr by rw[HGB.out];exact hbw)) ho;subst hpe;have HO:=Aa ho;have hyl:=(HOK.out o (Ad ho)).few.2.1;have hI:(i:Int) < (ln:Int):=by omega
   have hI0:(0:Int)≤(i:Int):=by omega
   have hI1:¬(ln:Int)≤(i:Int):=by omega
   have hst0:Hid ((Bo Az.syms l i 0).all (Hr defs)=true):=Aa (by rw[Eb];exact HALL.out);clear ho;have hbo:Below wr.heap.size wr (wr.alloc (.cells #[.slice p0 o.secs.length c0,.slice p1 o.syms.length c1,.slice p2 o.groups.length c2,.bool o.hasSig,.slice p4 o.sig.length c4] 27)):=(Ag _ wr).alloc (Af _) _;go_upto_region 4 with fail
   obtain⟨⟨u0,u1,u2,u3,u4'⟩,_⟩:=Ga _ _ _ _ _ _ _ _ (Ah wr (.cells #[.slice p0 o.secs.length c0,.slice p1 o.syms.length c1,.slice p2 o.groups.length c2,.bool o.hasSig,.slice p4 o.sig.length c4] 27));have hbr2:Below (gb+1) wa (wr.alloc (.cells #[.slice p0 o.secs.length c0,.slice p1 o.syms.length c1,.slice p2 o.groups.length c2,.bool o.hasSig,.slice p4 o.sig.length c4] 27)):=hbr.trans (hbo.mono (by have:=hbr.size;have:=HSA.out;omega));have hsy:=hsy0.below Ie.keeps hbo;generalize wr.alloc (.cells #[.slice p0 o.secs.length c0,.slice p1 o.syms.length c1,.slice p2 o.groups.length c2,.bool o.hasSig,.slice p4 o.sig.length c4] 27)=wo at*;generalize hyn:o.syms.length=yn at*;have HYN:=Aa hyn;have HSY:=Aa hsy;have HBR2:=Aa hbr2;generalize wr.heap.size=gob at*;clear hsy0 hbo hyn hsy hbr2 e0 e1 e2 e3 e4 u0 u2 u3 u4' hbr hbw HALL;go_wp2_with fail
   go_loopw [20] (fun r20 wr=>∃k:Nat,k≤yn∧r20= .int .i64 (k:Int)∧(Bo Az.syms l i k).all (Hr defs)=true∧Below wo.heap.size wo wr) (fun r20 _=>yn - (intOf r20).toNat)
   case atStart=>exact⟨0,Ak _,rfl,hst0.out,Ag _ _⟩
   case round=>
    obtain⟨k,hk,rfl,hall,hbi⟩:=hrel;have HALL:=Aa hall;have HBI:=Aa hbi;have hbw:Below gb w wr:=HA.out.trans ((HBR2.out.trans (hbi.mono (by have:=HBR2.out.size;have:=HSA.out;omega))).mono (by omega));have HBW:=Aa hbw;clear hall hbw;by_cases hlt2:k < yn
    ·obtain⟨b1,off1,x,hpe1,hx1,⟨f0,_⟩,⟨f1,_⟩,⟨f2,_⟩,⟨f3,_⟩,⟨f4,_⟩,⟨f5,_⟩⟩:=(HSY.out.below Ie.keeps hbi).at_ (i:=k) (by rw[HYN.out];exact hlt2);subst hpe1;have hK:(k:Int) < (yn:Int):=by omega
     have hK0:(0:Int)≤(k:Int):=by omega
     have hK1:¬(yn:Int)≤(k:Int):=by omega
     have HX:=Aa hx1;have hstep:=Jm1 (f:=Az.syms) (Hr defs) HO.out HX.out;rw[HALL.out,Bool.true_and]at hstep;have HSTEP:=Aa hstep;clear hx1 hbi hstep;go_upto_region 7 with fail
     have hb7:Below wr.heap.size wr (wr.alloc (.cells #[.string x.name,.int .i64 x.bind,.int .i64 x.type,.int .i64 x.sec,.int .i64 x.value,.int .i64 x.size] 98)):=(Ag _ wr).alloc (Af _) _;obtain⟨x0,x1,x2,x3,x4,x5⟩:=Ky _ _ _ _ _ _ _ _ _ (Ah wr (.cells #[.string x.name,.int .i64 x.bind,.int .i64 x.type,.int .i64 x.sec,.int .i64 x.value,.int .i64 x.size] 98));have hbi7:=HBI.out.trans (hb7.mono HBI.out.size);have hbw7:=HBW.out.trans (hb7.mono (by first|exact HBW.out.size|(rw[←HGB.out];exact HBW.out.size)|(have:=HBW.out.size;have:=HGB.out;omega)));generalize wr.alloc (.cells #[.string x.name,.int .i64 x.bind,.int .i64 x.type,.int .i64 x.sec,.int .i64 x.value,.int .i64 x.size] 98)=w7 at*;generalize wr.heap.size=g7 at*;have HBI7:=Aa hbi7;have HBW7:=Aa hbw7;clear hb7 hbi7 hbw7 f0 f1 f2 f3 f4 f5 x2 x3 x4 x5;obtain⟨q,hq⟩:∃q,q=(x.bind != 1):=⟨_,rfl⟩
     have hq':(x.bind != 1)=q:=hq.symm;have hd:Hr defs (i,k,x)=(q || (Hc defs x.name).isSome):=by rw[hq];rfl
     rw[hd]at HSTEP;have HOUT2:=Aa fun(hh:Hr defs (i,k,x)=false)=>HOUT.out i k o x HO.out HX.out hh;rw[hd]at HOUT2;clear hq hd;cases q with
     |true=>
      have hE:Hid ((Bo Az.syms l i (k+1)).all (Hr defs)=true):=Aa (by rw[HSTEP.out];rfl);have hE2:=HBI7;go_wp2_with fail
      go_roundw
      case rel=>exact⟨k+1,hlt2,by go_num,hE.out,HBI7.out⟩
      case measure=>simp[intOf];omega
     |false=>
      have HFX:=Aa (HFI.out w7 (by first|exact HBW7.out|(rw[HGB.out];exact HBW7.out)) x.name);have hA7:=((HBR2.out.trans (HBI7.out.mono (by have:=HBR2.out.size;have:=HSA.out;omega))).block gb (by omega)).trans HA0.out;obtain⟨⟨a0,a1⟩,_⟩:=Bz _ _ _ _ _ hA7;obtain⟨fs,hfs⟩:∃fs,fs=(Hc defs x.name).isSome:=⟨_,rfl⟩
      obtain⟨d,hdd⟩:∃d,d=(Hc defs x.name).getD noDef:=⟨_,rfl⟩
      rw[←hfs,←hdd]at HFX;rw[←hfs]at HSTEP HOUT2;clear hfs hdd hA7;go_upto_region 9 with(first|(go_at_call 23;refine HFX.out.mono ?_;rintro e w8 ⟨rfl,hb8⟩)|fail)
      have hb9:Below w7.heap.size w7 (w8.alloc (.cells #[.string d.name,.int .i64 (d.obj:Int),.int .i64 (d.sym:Int)] 60)):=hb8.alloc hb8.size _;have hbi9:=HBI7.out.trans (hb9.mono HBI7.out.size);have hbw9:=HBW7.out.trans (hb9.mono (by first|exact HBW7.out.size|(rw[←HGB.out];exact HBW7.out.size)|(have:=HBW7.out.size;have:=HGB.out;omega)));generalize w8.alloc (.cells #[.string d.name,.int .i64 (d.obj:Int),.int .i64 (d.sym:Int)] 60)=w9 at*;generalize w8.heap.size=g8 at*;have HBI9:=Aa hbi9;have HBW9:=Aa hbw9;clear hb8 hb9 hbi9 hbw9 a0 a1 x0 x1;cases fs with
      |true=>
       have hE:Hid ((Bo Az.syms l i (k+1)).all (Hr defs)=true):=Aa (by rw[HSTEP.out];rfl);go_wp2_with fail
       go_roundw
       case rel=>exact⟨k+1,hlt2,by go_num,hE.out,HBI9.out⟩
       case measure=>simp[intOf];omega
      |false=>
       have hE:Hid (r=false):=Aa (by rw[HR.out];exact HOUT2.out rfl);go_wp2_with fail
       go_ret;rw[hE.out];exact⟨rfl,by first|exact HBW9.out|(rw[HGB.out];exact HBW9.out)⟩
    ·obtain rfl:k=yn:=by omega
     have hK:¬(k:Int) < (k:Int):=by omega
     have hE:(Bc Az.syms l (i+1)).all (Hr defs)=true:=by rw[←Ia (k:=k) HO.out (by rw[HYN.out];exact Af _)];exact HALL.out
     go_wp2_with fail
     go_roundw
     case rel=>exact⟨i+1,hlt,by go_num,hE,HBR2.out.trans (HBI.out.mono (by have:=HBR2.out.size;have:=HSA.out;omega))⟩
     case measure=>simp[intOf];omega
  ·obtain rfl:i=ln:=by omega
   have hI:¬(i:Int) < (i:Int):=by omega
   have hE:Hid (r=true):=Aa (by rw[HR.out];exact HALL.out);go_wp2_with fail
   go_ret;rw[hE.out];exact⟨rfl,by rw[HGB.out];exact hbw⟩
def So(l:List Az)(i k:Nat)(m:List (ByteArray × Value)):Prop:=∀s,(Gy s m).getD (.bool false)= .bool (metB l i k s)
theorem Jgm(l:List Az):So l 0 0 []:=fun s=>by
 unfold metB;rw[Eb];rfl
theorem Jjs{l:List Az}{i k:Nat}{m:List (ByteArray × Value)}{o:Az}{g:Cs}(h:So l i k m)(ho:l[i]?=some o)(hg:o.groups[k]?=some g):So l i (k+1) (Uv m (Ff o g.sym) (.bool true)):=fun s=>by
 rw[Jl8];have hm:metB l i (k+1) s=(metB l i k s || sEq (Ff o g.sym) s):=by
  unfold metB;rw[Fp ho hg,List.any_append];simp[Lx,ho]
 rw[hm];cases hs:s==Ff o g.sym with
 |true=>
  obtain rfl:=(MapKept.bytes_beq _ _).1 hs;rw[Ig,Bool.or_true];rfl
 |false=>
  have:sEq (Ff o g.sym) s=false:=by
   cases hq:sEq (Ff o g.sym) s with
   |false=>rfl
   |true=>
    rw[Df.1 hq,Jcs]at hs;cases hs
  rw[this,Bool.or_false];exact h s
theorem Jjd{l:List Az}{i k:Nat}{m:List (ByteArray × Value)}{o:Az}(h:So l i k m)(ho:l[i]?=some o)(hk:o.groups.length≤k):So l (i+1) 0 m:=fun s=>by
 rw[h s];unfold metB;rw[Ia ho hk,Eb]
def Fr2(lo:Nat)(w w':World):Prop:=w.heap.size≤w'.heap.size∧∀g,lo≤g→g < w.heap.size→w'.heap[g]?=w.heap[g]?
theorem Fr2.refl(lo:Nat)(w:World):Fr2 lo w w:=⟨Af _,fun _ _ _=>rfl⟩
theorem Fr2.grown{lo:Nat}{w w1 w2:World}{row:Option Nat}(h:Fr2 lo w w1)(hg:w1.grownBy w2 row)(hr:∀r,row=some r→r < lo∨w.heap.size≤r):Fr2 lo w w2:=
 ⟨Aw h.1 hg.size,fun g h1 h2=>(hg.block g (Nat.lt_of_lt_of_le h2 h.1) (fun e=>by rcases hr g e.symm with h|h<;>omega)).trans (h.2 g h1 h2)⟩
theorem Fr2.trans{lo:Nat}{w w1 w2:World}(h:Fr2 lo w w1)(h2:Fr2 lo w1 w2):Fr2 lo w w2:=⟨Aw h.1 h2.1,fun g h3 h4=>(h2.2 g h3 (Nat.lt_of_lt_of_le h4 h.1)).trans (h.2 g h3 h4)⟩
theorem Jd8{lo:Nat}{w w':World}{base s:Nat}{e:TypeId}{v:Value}{n:Nat}{xs:List Value}(h:w.ownsRow base e s v n xs)(hf:Fr2 lo w w')(hl:lo≤base):w'.ownsRow base e s v n xs:=by
 refine⟨h.1,?_⟩;rcases h.2 with hn|⟨g,cap,cur,rfl,hb,hgg,rest⟩
 ·exact .inl hn
 ·exact .inr ⟨g,cap,cur,rfl,hb,(hf.2 g (by omega) (Ac.1 hgg).1).trans hgg,rest⟩
def Js(w:World)(base:Nat)(vs:List Value)(l:List Az)(i:Nat):Prop:=∀j o,j < i→l[j]?=some o→∃v,vs[j]?=some v∧w.ownsRow base 4 1 v o.secs.length ((Cx l j o o.groups.length).map Value.bool)
theorem Js.fr2{w w':World}{base:Nat}{vs:List Value}{l:List Az}{i:Nat}(h:Js w base vs l i)(hf:Fr2 base w w'):Js w' base vs l i:=fun j o hj ho=>by
 obtain⟨v,h1,h2⟩:=h j o hj ho;exact⟨v,h1,Jd8 h2 hf (Af _)⟩
theorem Js.snoc{w:World}{base:Nat}{vs:List Value}{l:List Az}{i:Nat}{o:Az}{v:Value}(h:Js w base vs l i)(ho:l[i]?=some o)(hi:i < vs.length)(hv:w.ownsRow base 4 1 v o.secs.length ((Cx l i o o.groups.length).map Value.bool)):Js w base (vs.set i v) l (i+1):=fun j o' hj ho'=>by
 by_cases hji:j=i
 ·subst hji;rw[ho]at ho';cases ho';exact⟨v,by rw[List.getElem?_set,if_pos rfl,if_pos hi],hv⟩
 ·obtain⟨u,h1,h2⟩:=h j o' (by omega) ho';exact⟨u,by rw[List.getElem?_set,if_neg (fun e=>hji e.symm)];exact h1,h2⟩
theorem Js.set{w:World}{base:Nat}{vs:List Value}{l:List Az}{i:Nat}{v:Value}(h:Js w base vs l i):Js w base (vs.set i v) l i:=fun j o' hj ho'=>by
 obtain⟨u,h1,h2⟩:=h j o' hj ho';exact⟨u,by rw[List.getElem?_set,if_neg (by omega)];exact h1,h2⟩
theorem Yd:∀xs:List Bool,xs.flatMap (fun b=> [Value.bool b])=xs.map Value.bool
 | []=>rfl
 |x::xs=>by rw[List.flatMap_cons,Yd xs];rfl
theorem Jbc{w:World}{B:Nat}{v:Value}{xs:List Bool}{n:Nat}(h:w.ownsRow B 4 1 v n (xs.map Value.bool)):IsL 1 Ij w v xs:=by
 have hn:n=xs.length:=by have:=h.1;simpa using this.symm
 subst hn;have:=Mo (k:=1) (E:=Ij) (f:=fun b:Bool=> [Value.bool b]) (g:=id) (fun _=>rfl) (by rw[Yd];exact h) (fun d _ b o hc=>by have:=hc 0 _ rfl;exact this);simpa using this
theorem Js.snoc'{w:World}{base:Nat}{vs:List Value}{l:List Az}{i:Nat}{o:Az}{v:Value}(h:Js w base (vs.set i v) l i)(ho:l[i]?=some o)(hi:i < (vs.set i v).length)(hv:w.ownsRow base 4 1 v o.secs.length ((Cx l i o o.groups.length).map Value.bool)):Js w base (vs.set i v) l (i+1):=by
 have:=h.snoc ho hi hv
 rwa [List.set_set]at this
theorem Jju{w:World}{gb base:Nat}{l:List Az}{vs:List Value}(hok:∀o∈l,OkD o)(h:w.ownsRow gb 138 1 (.slice (some ⟨gb,0,none⟩) l.length l.length) l.length vs)(hr:Js w base vs l l.length)(hlc:l.length≤1000):IsL 1 Fg w (.slice (some ⟨gb,0,none⟩) l.length l.length) (dropsOf l):=by
 have hlen:(dropsOf l).length=l.length:=by simp[dropsOf]
 refine⟨some ⟨gb,0,none⟩,l.length,by rw[hlen],by rw[hlen];exact Af _,by unfold maxLen;omega,fun e=>by simp at e,fun i x hx=>⟨gb,0,rfl,?_⟩⟩;have hi:i < l.length:=by have:=(Ab.1 hx).1;omega
 obtain⟨o,ho⟩:∃o,l[i]?=some o:=⟨_,Ae hi⟩
 have hx':x=Cx l i o o.groups.length:=by
  have hoo:=hok o (Ad ho);unfold dropsOf at hx;rw[List.getElem?_map,List.getElem?_range hi,Option.map_some]at hx;simp only[Option.some.injEq]at hx;rw[←hx,Qh hoo.one hoo.mem];unfold Jh;rw[ho]
 obtain⟨v,h1,h2⟩:=hr i o hi ho;refine⟨v,?_,by rw[hx'];exact Jbc h2⟩;rw[Nat.zero_add,Nat.mul_one,h.cellAt i (by omega)];exact h1
theorem Jea{l:List Az}{i k:Nat}{o:Az}{g:Cs}(hg:o.groups[k]?=some g):Cx l i o (k+1)=Dy (Cx l i o k) g.members (metB l i k (Ff o g.sym)):=by
 conv=>lhs;unfold Cx
 rw[hg]
theorem Jgj{l:List Az}{i:Nat}{o:Az}(h:OkD o)(k:Nat):(Cx l i o k).length=o.secs.length:=by rw[Qh h.one h.mem,Gg]
def Fd(ms:List Bb):List (ByteArray × Value):=ms.map fun d=>(d.name,.agg (Dh d))
theorem Zn(a b:ByteArray):(a==b)=sEq b a:=by
 cases h:sEq b a with
 |true=>rw[Df.1 h,Jcs]
 |false=>
  cases h2:a==b with
  |false=>rfl
  |true=>
   rw[(MapKept.bytes_beq a b).1 h2,Ig]at h;cases h
theorem Jew(name:ByteArray):∀ms:List Bb,Gy name (Fd ms)=(ms.find? fun e=>sEq e.name name).map fun d=> .agg (Dh d)
 | []=>rfl
 |d::ms=>by
  show(bif name==d.name then some (Value.agg (Dh d))else Gy name (Fd ms))=_;rw[Jew name ms,Zn,List.find?_cons];cases sEq d.name name<;>rfl
def Zj(ms:List Bb)(d:Bb):List Bb:=match ms.find? (fun e=>sEq e.name d.name)with
 |some _=>ms.map fun e=>bif sEq e.name d.name then d else e
 |none=>ms++ [d]
theorem Qd{name:ByteArray}:∀{ms:List Bb}{i:Nat},mAt name (Fd ms) i=none ↔ ms.find? (fun e=>sEq e.name name)=none
 | [],_=>by simp[Fd,mAt]
 |d::ms,i=>by
  show(bif name==d.name then some (i,Value.agg (Dh d))else mAt name (Fd ms) (i+1))=none ↔ _;rw[Zn,List.find?_cons];cases sEq d.name name with
  |true=>simp
  |false=>simpa using Qd (ms:=ms) (i:=i+1)
theorem Jd3{d:Bb}:∀{ms:List Bb},(∀e∈ms,e.name≠d.name)→(ms.map fun e=>bif sEq e.name d.name then d else e)=ms
 | [],_=>rfl
 |e::ms,h=>by
  rw[List.map_cons,Jd3 fun x hx=>h x (List.mem_cons_of_mem _ hx)];cases hq:sEq e.name d.name with
  |true=>exact absurd (Df.1 hq) (h e (List.mem_cons_self ..))
  |false=>rfl
theorem Jg7{d:Bb}:∀{ms:List Bb}{i n:Nat}{u:Value},Iw ms→mAt d.name (Fd ms) i=some (i+n,u)→(Fd ms).set n (d.name,.agg (Dh d))=Fd (ms.map fun e=>bif sEq e.name d.name then d else e)
 | [],_,_,_,_,h=>by cases h
 |e::ms,i,n,u,ha,h=>by
  obtain⟨h1,h2⟩:=List.pairwise_cons.1 ha;have h:(bif d.name==e.name then some (i,Value.agg (Dh e))else mAt d.name (Fd ms) (i+1))=some (i+n,u):=h;rw[Zn]at h;cases hq:sEq e.name d.name with
  |true=>
   rw[hq]at h;simp only[cond_true,Option.some.injEq,Prod.mk.injEq]at h;obtain rfl:n=0:=by omega
   have hn:=Df.1 hq;rw[List.map_cons,hq,cond_true,Jd3 fun x hx=>fun e'=>h1 x hx (hn.trans e'.symm)];rfl
  |false=>
   rw[hq]at h;simp only[cond_false]at h;obtain⟨k,hk,_⟩:=Td h;obtain⟨n',rfl⟩:∃n',n=n'+1:=⟨n - 1,by omega⟩
   have ih:=Jg7 (d:=d) (ms:=ms) (i:=i+1) (n:=n') (u:=u) h2 (by rw[h,show i+(n'+1)=i+1+n' by omega]);rw[List.map_cons,hq,cond_false];show(e.name,Value.agg (Dh e))::(Fd ms).set n' (d.name,.agg (Dh d))=(e.name,Value.agg (Dh e))::Fd _;rw[ih]
theorem Jev{ms:List Bb}{d:Bb}(ha:Iw ms):Uv (Fd ms) d.name (.agg (Dh d))=Fd (Zj ms d):=by
 unfold Uv Zj;cases hq:mAt d.name (Fd ms) 0 with
 |none=>
  rw[Qd.1 hq];unfold Fd;rw[List.map_append];rfl
 |some x=>
  obtain⟨n,u⟩:=x;cases hf:ms.find? (fun e=>sEq e.name d.name)with
  |none=>rw[Qd.2 hf]at hq;cases hq
  |some y=>exact Jg7 (i:=0) (n:=n) ha (by rw[hq,Nat.zero_add])
theorem Yi{D:List (List Bool)}{bindOf:Bb→Int}{x:Sy}:∀{ys:List Sy}{m:List Bb},Dw D bindOf (ys++ [x]) m=(Dw D bindOf ys m).bind (ownStep D bindOf x)
 | [],m=>by
   show(match ownStep D bindOf x m with|none=>none|some m'=>some m')=ownStep D bindOf x m;cases ownStep D bindOf x m<;>rfl
 |y::ys,m=>by
  show(match ownStep D bindOf y m with|none=>none|some m'=>Dw D bindOf (ys++ [x]) m')=(match ownStep D bindOf y m with|none=>none|some m'=>Dw D bindOf ys m').bind (ownStep D bindOf x);cases ownStep D bindOf y m with
  |none=>rfl
  |some m'=>exact Yi
theorem Xk{D:List (List Bool)}{bindOf:Bb→Int}{r:List Sy}:∀{ys:List Sy}{m:List Bb},Dw D bindOf ys m=none→Dw D bindOf (ys++r) m=none
 | [],m,h=>by cases h
 |y::ys,m,h=>by
  have h:(match ownStep D bindOf y m with|none=>none|some m'=>Dw D bindOf ys m')=none:=h;show(match ownStep D bindOf y m with|none=>none|some m'=>Dw D bindOf (ys++r) m')=none;cases hs:ownStep D bindOf y m with
  |none=>rfl
  |some m'=>
   rw[hs]at h;exact Xk h
theorem Jap{α:Type}{f:Az→List α}{l:List Az}{i:Nat}:∀{n:Nat},i≤n→∃r,Bc f l n=Bc f l i++r
 |0,h=>by
  obtain rfl:i=0:=Nat.le_zero.1 h;exact⟨[],by rw[List.append_nil]⟩
 |n+1,h=>by
  by_cases hi:i=n+1
  ·subst hi;exact⟨[],by rw[List.append_nil]⟩
  ·obtain⟨r,hr⟩:=Jap (f:=f) (l:=l) (n:=n) (show i≤n by omega);refine⟨r++match l[n]? with|some o=>Eh f n o|none=> [],?_⟩;show Bc f l n++_=_;rw[hr,List.append_assoc];rfl
theorem Wq{α:Type}{f:Az→List α}{l:List Az}{i k:Nat}{o:Az}(ho:l[i]?=some o):∃r,Bc f l l.length=Bo f l i k++r:=by
 obtain⟨r,hr⟩:=Jap (f:=f) (l:=l) (i:=i+1) (n:=l.length) (Ab.1 ho).1;refine⟨(Eh f i o).drop k++r,?_⟩;have e:Bc f l (i+1)=Bc f l i++Eh f i o:=by
  show Bc f l i++(match l[i]? with|some o=>Eh f i o|none=> [])=_;rw[ho]
 rw[hr,e];unfold Bo;rw[ho];simp only;rw[List.append_assoc,List.append_assoc,←List.append_assoc ((Eh f i o).take k),List.take_append_drop]
def Di(l:List Az)(d:Bb):Int:=match symAt2 l d.obj d.sym with|some y=>y.bind|none=>0
theorem Zd{l:List Az}:∀y∈Bc Az.syms l l.length,Di l ⟨y.2.2.name,y.1,y.2.1⟩=y.2.2.bind:=fun y hy=>by
 obtain⟨i,k,x⟩:=y;obtain⟨h1,o,h2,h3⟩:=Gh.1 hy;have:symAt2 l i k=some x:=by unfold symAt2;rw[h2];exact h3
 unfold Di;rw[this]
theorem Jne{name:ByteArray}{hs:List Sy}{d:Bb}(h:Ef name hs=some d):∃x∈hs,d=⟨name,x.1,x.2.1⟩:=by
 cases hs with
 |nil=>cases h
 |cons x r=>cases h;exact⟨x,List.mem_cons_self ..,rfl⟩
theorem Jj9{xs:List Sy}{D:List (List Bool)}{name:ByteArray}{d:Bb}(h:findIn xs D name=some d):∃x∈xs,d=⟨name,x.1,x.2.1⟩:=by
 unfold findIn at h;have hh:∀b,Ef name (hitsIn xs D name b)=some d→∃x∈xs,d=⟨name,x.1,x.2.1⟩:=fun b h=>by
  obtain⟨x,hx,e⟩:=Jne h;exact⟨x,(List.mem_filter.1 hx).1,e⟩
 cases hq:Ef name (hitsIn xs D name 1)with
 |none=>rw[hq]at h;exact hh 2 h
 |some d'=>rw[hq]at h;cases h;exact hh 1 hq
theorem Ve{l:List Az}{D:List (List Bool)}{i k:Nat}{ms:List Bb}(hok:∀o∈l,OkD o)(h:Dw D (Di l) (Bo Az.syms l i k) []=some ms):Sd D (Di l) (Bo Az.syms l i k) ms:=by
 have hb:∀y∈Bo Az.syms l i k,Di l ⟨y.2.2.name,y.1,y.2.1⟩=y.2.2.bind:=fun y hy=>by
  obtain⟨a,b,x⟩:=y;obtain⟨_,o,h2,h3⟩:=Ny.1 hy;have:symAt2 l a b=some x:=by unfold symAt2;rw[h2];exact h3
  unfold Di;rw[this]
 have hx:∀y∈Bo Az.syms l i k,Cw y.2.2 (Cz D y.1)=true→y.2.2.bind=1∨y.2.2.bind=2:=fun y hy hd=>by
  obtain⟨a,b,x⟩:=y;obtain⟨_,o,h2,h3⟩:=Ny.1 hy;have h4:=(hok o (Ad h2)).bind x (Ad h3);have h5:x.bind≠0:=fun h0=>by unfold Cw at hd;rw[h0]at hd;cases hd
  show x.bind=1∨x.bind=2;omega
 have:=(Tr (D:=D) (bindOf:=Di l) (Bo Az.syms l i k) [] [] ⟨List.Pairwise.nil,fun name=>rfl,fun name=>Ak _⟩ hb hx).2 ms h
 rwa [List.nil_append]at this
theorem Jpv{l:List Az}{D:List (List Bool)}{i k:Nat}{ms:List Bb}{name:ByteArray}{d:Bb}(hi:Sd D (Di l) (Bo Az.syms l i k) ms)(h:ms.find? (fun e=>sEq e.name name)=some d):∃ob y,l[d.obj]?=some ob∧ob.syms[d.sym]?=some y∧Di l d=y.bind:=by
 rw[hi.2.1 name]at h;obtain⟨x,hx,rfl⟩:=Jj9 h;obtain⟨a,b,y⟩:=x;obtain⟨_,ob,h2,h3⟩:=Ny.1 hx;refine⟨ob,y,h2,h3,?_⟩;have:symAt2 l a b=some y:=by unfold symAt2;rw[h2];exact h3
 unfold Di;rw[this]
theorem Ji7(B:Nat)(w:World):Calls Tryz.prog 107 #[.map (some B)] w fun e w'=>e= .returned (.func (.func 161) #[] #[.pointer (some ⟨w.heap.size,0,none⟩)])∧w'.heap[w.heap.size]?=some (.cells #[.map (some B)] 200 (0,0))∧Below w.heap.size w w':=by
 have hg:=Ah w (.cells #[.map (some B)] 200);have hb:Below w.heap.size w (w.alloc (.cells #[.map (some B)] 200)):=(Ag _ w).alloc (Af _) _;go_enter Tryz.func107,Tryz.ntmps107;go_upto_region 1 with fail
 generalize w.alloc (.cells #[.map (some B)] 200)=w1 at*;go_wp2_with fail
 go_ret;exact⟨rfl,hg,hb⟩
end Go.Proofs.YteopgmieindojaaGreat
namespace Go.Proofs.YteopgmieindojaaGreat
open Go.ChangeMaps Go.RowKit Go.MapKept
def Ik(w:World)(B r:Nat)(m:List (ByteArray × Value))(left:List MapEntry):Prop:=
 ∃es clock since seen c0,w.heap[B]?=some (.map es clock)∧es.toList.map (fun e=>(e.key,e.val))=m.map (fun p=>(Value.string p.1,p.2))∧(es.toList.map (·.born)).Nodup∧
  w.heap[r]?=some (.mapIter (some B) since seen c0)∧(∀x∈es.toList,x.born < since)∧since≤c0∧since≤clock∧left=(leftOf es seen).toList
theorem Jfd{es:List MapEntry}{seen:Array Nat}{b:Nat}(h:b∉es.map (·.born)):es.filter (fun e=>!(seen.push b).contains e.born)=es.filter (fun e=>!seen.contains e.born):=by
 apply List.filter_congr;intro x hx;rw[contains_push];have:(x.born==b)=false:=by
  cases hc:x.born==b with
  |false=>rfl
  |true=>exact absurd (List.mem_map.2 ⟨x,hx,beq_iff_eq.1 hc⟩) h
 rw[this,Bool.or_false]
theorem Wb{e:MapEntry}{seen:Array Nat}(hs:seen.contains e.born=false):∀{es:List MapEntry},(es.map (·.born)).Nodup→e∈es→(es.filter fun x=>!seen.contains x.born).Perm (e::es.filter fun x=>!(seen.push e.born).contains x.born)
 | [],_,he=>by cases he
 |x::es,hn,he=>by
  have hn':x.born∉es.map (·.born)∧(es.map (·.born)).Nodup:=List.nodup_cons.1 hn;by_cases hx:x.born=e.born
  ·have hxe:x=e:=by
    rcases List.mem_cons.1 he with h|h
    ·exact h.symm
    ·exact absurd (List.mem_map.2 ⟨e,h,hx.symm⟩) hn'.1
   subst hxe;rw[List.filter_cons,List.filter_cons,if_pos (by rw[hs];rfl),if_neg (by rw[contains_push,beq_self_eq_true,Bool.or_true];decide),Jfd hn'.1]
  ·have he':e∈es:=by
    rcases List.mem_cons.1 he with h|h
    ·exact absurd (by rw[h]) hx
    ·exact h
   have ih:=Wb hs hn'.2 he';have hb:(x.born==e.born)=false:=by simpa using hx
   cases hc:seen.contains x.born with
   |true=>
    rw[List.filter_cons,List.filter_cons,if_neg (by rw[hc];decide),if_neg (by rw[contains_push,hc,Bool.true_or];decide)];exact ih
   |false=>
    rw[List.filter_cons,List.filter_cons,if_pos (by rw[hc];rfl),if_pos (by rw[contains_push,hc,hb];rfl)];exact(ih.cons x).trans (List.Perm.swap _ _ _)
section
variable {P:Program} {w:World} {B r:Nat} {m:List (ByteArray × Value)} {left:List MapEntry}
theorem Ik.walks{w':World}(h:Ik w B r m left)(hk:KeepsWalks w w'):Ik w' B r m left:=by
 obtain⟨es,clock,since,seen,c0,h1,h2,h3,h4,h5⟩:=h;exact⟨es,clock,since,seen,c0,hk.same _ _ h1 rfl,h2,h3,hk.same _ _ h4 rfl,h5⟩
theorem Ik.left_eq(h:Ik w B r m left):w.rangeLeft B r=left.length:=by
 obtain⟨es,clock,since,seen,c0,h1,h2,h3,h4,_,_,_,rfl⟩:=h;simp only[World.rangeLeft,h1,h4,Array.length_toList]
theorem Ik.iter_walk(h:Ik w B r m left):∃o:Obj,w.heap[r]?=some o∧o.isWalk=true:=by
 obtain⟨es,clock,since,seen,c0,h1,h2,h3,h4,_⟩:=h;exact⟨_,h4,rfl⟩
theorem Ik.mem(h:Ik w B r m left){e:MapEntry}(he:e∈left):∃p∈m,e.key= .string p.1∧e.val=p.2:=by
 obtain⟨es,clock,since,seen,c0,h1,h2,h3,h4,_,_,_,rfl⟩:=h;have hm:(e.key,e.val)∈es.toList.map (fun e=>(e.key,e.val)):=List.mem_map.2 ⟨e,(mem_left he).1,rfl⟩;rw[h2]at hm;obtain⟨p,hp,e1⟩:=List.mem_map.1 hm;exact⟨p,hp,(Prod.mk.inj e1).1.symm,(Prod.mk.inj e1).2.symm⟩
theorem En.range{t k e:TypeId}(h:En w B m)(ht:P.underlying t=some (.map k e)):
 ∃w' left,(Instr.range t (.map (some B))).run P w= .ok (.pointer (some ⟨w.heap.size,0,none⟩)) w'∧Ik w' B w.heap.size m left∧left.map (·.val)=m.map (·.2)∧w.grownBy w' none∧w'.heap.size=w.heap.size+1:=by
 have hlt:=h.lt;obtain⟨es,clock,hb,h2,h3,h4⟩:=h;refine⟨_,es.toList,run_range_map w t k e B es clock ht hb,⟨es,clock,clock,#[],clock,((MapKept.heap_alloc w _).2 B hlt).trans hb,h2,h3,(MapKept.heap_alloc w _).1,h4,Af _,Af _,?_⟩,?_,World.grownBy_alloc w _ none,by simp⟩
 ·simp[leftOf];exact(List.filter_eq_self.2 fun _ _=>rfl).symm
 ·have:=congrArg (List.map Prod.snd) h2;simpa[Function.comp_def]using this
theorem Ik.next(h:Ik w B r m left)(ty:TypeId):
 (left= []∧(Instr.next (.pointer (some ⟨r,0,none⟩)) false ty).run P w= .ok (.tuple #[.bool false]) w)∨
 ∃e left' w',e∈left∧left.Perm (e::left')∧(Instr.next (.pointer (some ⟨r,0,none⟩)) false ty).run P w= .ok (.tuple #[.bool true,e.key,e.val]) w'∧
  Ik w' B r m left'∧w.grownBy w' (some r)∧w'.heap.size=w.heap.size∧(Instr.entry (.pointer (some ⟨r,0,none⟩))).run P w'= .ok (.tuple #[e.key,e.val]) w':=by
 obtain⟨es,clock,since,seen,c0,hb,h2,h3,hr,hold,hsc,hsk,rfl⟩:=h;have hne:r≠B:=fun e=>by rw[e,hb]at hr;cases hr
 rcases run_next_at (P:=P) w ty r B since c0 seen es clock hr hb hold hsc with⟨h0,hrun⟩|⟨e,he,w1,hal,hrun⟩
 ·exact .inl ⟨List.length_eq_zero_iff.1 (by rw[Array.length_toList];exact h0),hrun⟩
 ·obtain⟨hem,hes⟩:=mem_left he;have hr1:w1.heap[r]?=some (.mapIter (some B) since seen c0):=by rcases hal with rfl|rfl<;>exact hr
  have hb1:w1.heap[B]?=some (.map es clock):=by rcases hal with rfl|rfl<;>exact hb
  have hset:=heap_set (o':= .mapIter (some B) since (seen.push e.born) clock) hr1;have hb':(setBlock w1 r (.mapIter (some B) since (seen.push e.born) clock)).heap[B]?=some (.map es clock):=(hset.2 B (fun e1=>hne e1.symm)).trans hb1;refine .inr ⟨e,(leftOf es (seen.push e.born)).toList,_,he,?_,hrun,⟨es,clock,since,seen.push e.born,clock,hb',h2,h3,hset.1,hold,hsk,hsk,rfl⟩,?_,?_,run_entry_at _ r B since seen es clock e hset.1 hb' hem h3⟩
  ·unfold leftOf;rw[Array.toList_filter,Array.toList_filter];exact Wb hes h3 hem
  ·rcases hal with rfl|rfl<;>exact⟨rfl,rfl,rfl,by simp[setBlock],fun i _ hi=>hset.2 i (fun e1=>hi (by rw[e1]))⟩
  ·rcases hal with rfl|rfl<;>simp[setBlock]
end
section
variable {F:Fence} {n:Nat} {P:Program} (w:World) {ops:Array Oper} {rest:List Oper} {o:Oper} {a:Act} {Q:Exit→Act→World→Prop}
theorem Ut(hg:o.guard=none)(mo:Operand)(t:TypeId)(hop:o.op=Op.range t mo)(k e:TypeId)(ht:P.underlying t=some (.map k e))(B:Nat)(m:List (ByteArray × Value))
 (hm:a.eval mo= .map (some B))(hown:En w B m)
 (hK:∀w' left,Ik w' B w.heap.size m left→left.map (·.val)=m.map (·.2)→w.grownBy w' none→w'.heap.size=w.heap.size+1→wpListIn F n P ops Q rest (a.put o.dst (.pointer (some ⟨w.heap.size,0,none⟩))) w'):
 wpListIn F n P ops Q (o::rest) a w:=by
 refine wpListIn_plain hg fun K' hK'=>?_;obtain⟨w',left,hrun,r1,r2,r3,r4⟩:=hown.range ht;unfold Oper.wpIn;refine⟨by simp[Oper.about,hop],?_⟩;rw[Oper.semAt_plain F _ _ (by rw[hop];intro c hc';cases hc')];simp[execOp,hop,hm,hrun,Result.andThen];exact hK' _ _ (hK w' left r1 r2 r3 r4)
theorem Vk(hg:o.guard=none)(it:Operand)(hop:o.op=Op.next it false)(B r:Nat)(m:List (ByteArray × Value))(left:List MapEntry)
 (hit:a.eval it= .pointer (some ⟨r,0,none⟩))(h:Ik w B r m left)
 (hDone:left= []→wpListIn F n P ops Q rest (a.put o.dst (.tuple #[.bool false])) w)
 (hMore:∀(s:ByteArray)(v:Value)(e:MapEntry)(w':World)(left':List MapEntry),e∈left→e.val=v→(s,v)∈m→left.Perm (e::left')→Ik w' B r m left'→
  w.grownBy w' (some r)→w'.heap.size=w.heap.size→(Instr.entry (.pointer (some ⟨r,0,none⟩))).run P w'= .ok (.tuple #[.string s,v]) w'→wpListIn F n P ops Q rest (a.put o.dst (.tuple #[.bool true,.string s,v])) w'):
 wpListIn F n P ops Q (o::rest) a w:=by
 refine wpListIn_plain hg fun K' hK'=>?_;unfold Oper.wpIn;refine⟨by simp[Oper.about,hop],?_⟩;rw[Oper.semAt_plain F _ _ (by rw[hop];intro c hc';cases hc')];rcases h.next (P:=P) o.type with⟨h0,hrun⟩|⟨e,left',w',he,hp,hrun,hrg,hgr,hsz,hen⟩
 ·simp[execOp,hop,hit,hrun,Result.andThen];exact hK' _ _ (hDone h0)
 ·obtain⟨p,hpm,e1,e2⟩:=h.mem he;rw[e1,e2]at hrun hen;simp[execOp,hop,hit,hrun,Result.andThen];exact hK' _ _ (hMore p.1 p.2 e w' left' he e2 hpm hp hrg hgr hsz hen)
end
end Go.Proofs.YteopgmieindojaaGreat
namespace Go.Proofs.YteopgmieindojaaGreat
open Go.RowKit Go.Shelf
attribute [local go_sem] Oper.semAt_some
abbrev Ll (d:Bb):Value:= .agg (Dh d)
theorem Jn9(F:Fence)(n:Nat)(h8:F.fn 161)(hro:F.round=none)(hn:1≤n)(l Bm B:Nat)(ms:List Bb)(J Jx:List Bb→World→Prop)
 (hY:∀pre x W,J pre W→pre.length < ms.length→YieldAt F (n - 1) Tryz.prog l #[.agg (Dh x)] W fun e W'=>
  (e= .returned (.bool true)∧J (pre++ [x]) W'∧KeepsWalks W W')∨(e= .returned (.bool false)∧Jx (pre++ [x]) W'))
 (W:World)(hJ:AbidesFrom W.heap.size J)(hm:W.cell? ⟨Bm,0,none⟩=some (.map (some B)))(hown:En W B (Fd ms))(h0:J [] W):
 CallsIn F n Tryz.prog 161 #[.func (.yield l) #[] #[],.pointer (some ⟨Bm,0,none⟩)] W fun e W'=>(∃v,e= .returned v)∧
  ((∃xs:List Bb,(xs.map Ll).Perm (ms.map Ll)∧J xs W')∨(∃pre,True∧Jx pre W')):=by
 refine callsIn_of_wp Tryz.func161 rfl h8 ?_ hro;simp only[Tryz.ntmps161,List.size_toArray,List.length_cons,List.length_nil,Nat.reduceAdd,Nat.reduceSub,Array.replicate_succ,Array.replicate_zero,List.push_toArray,List.append_toArray,List.nil_append,List.cons_append]
 gi_wp2_with (first
  |(gi_at_range;refine Ut _ rfl _ 200 rfl 9 60 Tryz.underlying200 B (Fd ms) rfl hown ?_;intro w0 left0 hrg0 hlv0 hg0 hs0)
  |gi_in)
 go_frame
 gi_loopw [4] (fun _ wr=>∃(left:List MapEntry)(pre:List Bb),Ik wr B W.heap.size (Fd ms) left∧(pre.map Ll++left.map (·.val)).Perm (ms.map Ll)∧J pre wr)
  (fun _ wr=>wr.rangeLeft B W.heap.size)
 case atStart=>
  exact⟨left0, [],hrg0,by rw[hlv0];simp[Fd,Function.comp_def],hJ [] W w0 none h0 hg0 (fun r e=>by cases e)⟩
 case round=>
  obtain⟨left,pre,hrg,hperm,hJs⟩:=hrel
  gi_wp2_with (first
   |(gi_at_next;refine Vk _ rfl _ rfl B W.heap.size (Fd ms) left rfl hrg ?_ ?_)
   |gi_in)
  ·intro hl0;subst hl0
   gi_wp2
   go_end0;exact⟨⟨_,rfl⟩,.inl ⟨pre,by simpa using hperm,hJs⟩⟩
  ·intro s v e w2 left' he hev hmem hp hrg2 hg2 hs2 hen;obtain⟨d,hd,hde⟩:=List.mem_map.1 hmem;obtain⟨rfl,rfl⟩:=Prod.mk.inj hde;have hlen:pre.length+left.length=ms.length:=by have:=hperm.length_eq;simpa using this
   have hlp:left.length=left'.length+1:=by have:=hp.length_eq;simpa using this
   have hJ2:J pre w2:=hJ pre wr w2 (some W.heap.size) hJs hg2 (fun r e=>by cases e;exact⟨Af _,hrg.iter_walk⟩);have hJ3:J pre (w2.alloc (.cells #[.string d.name,.int .i64 (d.obj:Int),.int .i64 (d.sym:Int)] 60)):=hJ pre w2 _ none hJ2 (World.grownBy_alloc w2 _ none) (fun r e=>by cases e);have hrg3:Ik (w2.alloc (.cells #[.string d.name,.int .i64 (d.obj:Int),.int .i64 (d.sym:Int)] 60)) B W.heap.size (Fd ms) left':=hrg2.walks (KeepsWalks.alloc _ _);have hperm2:((pre++ [d]).map Ll++left'.map (·.val)).Perm (ms.map Ll):=by
    refine List.Perm.trans ?_ hperm;have h1:=(hp.map (·.val)).symm;rw[List.map_cons,hev]at h1;rw[List.map_append,List.append_assoc];exact List.Perm.append_left _ h1
   obtain⟨fn,tmps,assign,body,hy,hR⟩:=hY pre d _ hJ3 (by omega);clear hs2 hg2 hJ2 hrg2 hde hmem he
   gi_wp2
   refine hR.mono ?_;rintro e W3 (⟨rfl,hJ4,hk4⟩|⟨rfl,hJx4⟩)
   ·gi_wp2
    have hrg4:=hrg3.walks hk4;go_roundw
    case rel=>exact⟨left',pre++ [d],hrg4,hperm2,hJ4⟩
    case measure=>rw[hrg4.left_eq,hrg.left_eq];omega
   ·gi_wp2
    refine bodyPost_ret (results_none rfl _ _ _) rfl ?_;exact⟨⟨_,rfl⟩,.inr ⟨pre++ [d],trivial,hJx4⟩⟩
theorem Je6(F:Fence)(n:Nat)(h7:F.fn 161)(hro:F.round=none)(hn:1≤n)(Bm B:Nat)(ms:List Bb)(w:World)(hBm:Bm < w.heap.size)
 (hc:w.cell? ⟨Bm,0,none⟩=some (.map (some B)))(hm:En w B (Fd ms)):
 SeqStopsK F n Tryz.prog 161 #[.pointer (some ⟨Bm,0,none⟩)] (fun d:Bb=>#[.agg (Dh d)]) KeepsWalks (fun xs=>(xs.map Ll).Perm (ms.map Ll)) (fun _=>True) ms.length w:=fun l J Jx W hW hJ _ hY h0=>
 Jn9 F n h7 hro hn l Bm B ms J Jx hY W hJ ((hW.cell (p:=⟨Bm,0,none⟩) hBm).trans hc) (hm.below hW) h0
attribute [local go_sem] Oper.semAt_some
def Im(d:Bb):List Value:= [.string d.name,.int .i64 (d.obj:Int),.int .i64 (d.sym:Int)]
theorem Vs(d:Bb):(Im d).length=3:=rfl
theorem Tryz.infoDef:(Tryz.prog.info? 60).map (fun i=>(i.zero,i.size,i.bytes))=some (some (.agg #[.string ⟨#[]⟩,.int .i64 0,.int .i64 0]),3,32):=by kernel_rfl
theorem Jbn(w:World)(a b c:Value)(T:TypeId):∀j u, [a,b,c][j]?=some u→(w.alloc (.cells #[a,b,c] T)).cell? ((⟨w.heap.size,0,none⟩:Addr).add j)=some u:=fun j u h=>by
 have ha:(⟨w.heap.size,0,none⟩:Addr).add j=⟨w.heap.size,j,none⟩:=by unfold Addr.add;split<;>simp_all
 rw[ha,Am _ w.heap.size j #[a,b,c] T (0,0) (Ah w _)];simpa using h
theorem Jeo(d:Bb):∀u∈ [Value.string d.name,.int .i64 (d.obj:Int),.int .i64 (d.sym:Int)],u.oneCell'=true:=fun u hu=>by
 simp only[List.mem_cons,List.not_mem_nil,or_false]at hu;rcases hu with rfl|rfl|rfl<;>rfl
theorem Jkx{β:Type}(B:Nat)(o:Obj)(ho:o.isCells=true):Own (fun(_:β) W=>W.heap[B]?=some o):=fun s X Y row hs hg hrow=>by
 refine(hg.block B (Ac.1 hs).1 fun e'=>?_).trans hs;obtain⟨o',h1,hc⟩:=hrow B e'.symm;rw[show X.heap[B]?=_ from hs]at h1;cases h1;rw[ho]at hc;cases hc
theorem Jd5(F:Fence)(n:Nat)(h3:F.fn 193)(h7:F.fn 161)(hro:F.round=none)(hn:3≤n)(Bm B:Nat)(ms:List Bb)(hlen:ms.length≤10000000)(w:World)(hBm:Bm < w.heap.size)
 (hc:w.cell? ⟨Bm,0,none⟩=some (.map (some B)))(hm:En w B (Fd ms)):
 CallsIn F n Tryz.prog 193 #[.slice none 0 0,.func (.func 161) #[] #[.pointer (some ⟨Bm,0,none⟩)]] w fun e W'=>
  ∃(u:Value)(defs:List Bb),e= .returned u∧W'.ownsRow w.heap.size 60 3 u defs.length (defs.flatMap Im)∧(defs.map Ll).Perm (ms.map Ll)∧Below w.heap.size w W':=by
 have h1:1≤n:=by omega
 obtain⟨i0,hi,hz0,hz1,hz2⟩:=info_parts Tryz.infoDef;refine callsIn_of_wp_marks Tryz.func193 rfl h3 ?_ hro;simp only[Tryz.ntmps193,List.size_toArray,List.length_cons,List.length_nil,Nat.reduceAdd,Nat.reduceSub,Array.replicate_succ,Array.replicate_zero,List.push_toArray,List.append_toArray,List.nil_append,List.cons_append]
 gi_wp2
 have bO:=Boxed.new w 47 (.slice none 0 0);have hB0:Below w.heap.size w (w.alloc (.cells #[.slice none 0 0] 47)):=(Ag _ w).alloc (Af _) _;refine wpIn_rangeFunc_ownH hro h1 (gf:=161) (lb:=#[.pointer (some ⟨Bm,0,none⟩)]) rfl h7 (enters_of Tryz.func161 (by kernel_rfl) rfl)
  (Je6 F (n - 1) h7 hro (by omega) Bm B ms _ (by simp;omega) ((hB0.cell (p:=⟨Bm,0,none⟩) hBm).trans hc) (hm.below hB0)) walksK_t walksK_b (Ag _ _) (fun _=>rfl)
  (fun pre W=>(∃v,Boxed W w.heap.size 47 v∧W.ownsRow w.heap.size 60 3 v pre.length (pre.flatMap Im)∧True)∧Below w.heap.size w W)
  (fun _ _ _=>False)
  (OwnFrom.and (Own.from (holdsRow_own w.heap.size w.heap.size 47 60 3 (fun pre:List Bb=>pre.length) (fun pre=>pre.flatMap Im) (fun _ _=>True)) _) (ownFrom_below (Af _) (by simp)))
  (fun _ _ _ _ _ hs _ _=>hs)
  ⟨⟨_,bO,Aq _ _ _ _,trivial⟩,hB0⟩
  (fun x a' W=>∃Bx,w.heap.size < Bx∧W.heap[Bx]?=some (.cells #[.string x.name,.int .i64 (x.obj:Int),.int .i64 (x.sym:Int)] 60 (0,0))∧a'={tmps:=#[.slice none 0 0,.func (.func 161) #[] #[.pointer (some ⟨Bm,0,none⟩)],.pointer (some ⟨w.heap.size,0,none⟩),undef,.slice none 0 0,.pointer (some ⟨Bx,0,none⟩),.func (.func 161) #[] #[.pointer (some ⟨Bm,0,none⟩)],.agg #[.string x.name,.int .i64 (x.obj:Int),.int .i64 (x.sym:Int)],undef,undef,undef,undef,undef],defers:= []})
  (fun x a' _ X Y row hs hg hr=>by obtain⟨Bx,h1,h2,h3⟩:=hs;exact⟨Bx,h1,Jkx Bx _ rfl () X Y row h2 hg (fun r e=>(hr r e).2),h3⟩)
  ?assign ?body ?done ?stop
 case assign=>
  rintro l pre x W K ⟨⟨v,bS1,hr1,_⟩,hB1⟩ hK
  gi_wp2
  exact hK _ _ ((KeepsOthers.alloc _ _).from _) (KeepsWalks.alloc _ _) ⟨⟨v,bS1.alloc _,hr1.alloc _,trivial⟩,hB1.alloc hB1.size _⟩ ⟨W.heap.size,bS1.lt,Ah W _,rfl⟩
 case body=>
  rintro l pre x a' W hl ⟨r,hr⟩ ⟨⟨v,bS1,hr1,_⟩,hB1⟩ ⟨Bx,hBx,bX,rfl⟩ hlt;have cS:=bS1.cell;obtain⟨⟨x0,x1,x2⟩,_⟩:=Bj _ _ _ _ _ _ bX
  gi_wp2_with (gi_at_builtin;refine wpListIn_append_own _ rfl _ _ 47 rfl w.heap.size 60 i0 (.agg #[.string ⟨#[]⟩,.int .i64 0,.int .i64 0]) 3 32 Tryz.underlying47 hi hz0 hz1 hz2 rfl (by decide) _ _ _ rfl (hr1.alloc _) ⟨W.heap.size,0,none⟩ 1 1 [.string x.name,.int .i64 (x.obj:Int),.int .i64 (x.sym:Int)] rfl rfl (Jbn W _ _ _ _) (Jeo x) (by unfold maxLen;omega) (by omega) (by have:=hB1.size;simp;omega) ?_;intro v' w1 hown' hgrow _;obtain⟨g',cap',rfl⟩:=ownsRow_succ hown';obtain⟨hv1,hv2,hr2,hk2,hb2⟩:=bS1.appended (by decide) hr1 hB1.size (Af _) hown' hgrow;have hc1:=hv1.cell;have hf1:=hv1.frozen)
  exact⟨hk2.from _,hk2.walks,⟨⟨_,hv2,by rw[List.length_append,List.flatMap_append];simpa[Im]using hr2,trivial⟩,hB1.trans hb2⟩⟩
 case done=>
  rintro D ys W hD hS ⟨⟨v,hv,hrow,_⟩,hB⟩ hK;have hcv:=hv.cell
  gi_wp2
  refine⟨by simp,.inl ⟨_,_,rfl,run_takeDeferred hK,?_⟩⟩;exact⟨_,results_tmp rfl _ _ _,v,ys,rfl,ownsRow_putObj hrow _ hK rfl,hS,hB.trans (belowK_b (w:=w) (Af _) W D _ _ (by simp at hD;omega) hK rfl rfl)⟩
 case stop=>
  rintro D c pre W _ _ h _;exact h.elim
theorem Jf8(Bm B:Nat)(ms:List Bb)(hlen:ms.length≤10000000)(w:World)(hBm:Bm < w.heap.size)
 (hc:w.cell? ⟨Bm,0,none⟩=some (.map (some B)))(hm:En w B (Fd ms)):
 Calls Tryz.prog 159 #[.func (.func 161) #[] #[.pointer (some ⟨Bm,0,none⟩)]] w fun e W'=>
  ∃(u:Value)(defs:List Bb),e= .returned u∧W'.ownsRow w.heap.size 60 3 u defs.length (defs.flatMap Im)∧(defs.map Ll).Perm (ms.map Ll)∧Below w.heap.size w W':=by
 have H:=callsIn_wide.1 (Jd5 Fence.wide 3 trivial trivial rfl (Af _) Bm B ms hlen w hBm hc hm);have HH:=Aa H;clear H hc hm hBm;go_enter Tryz.func159,Tryz.ntmps159;go_wp2_with fail
 refine HH.out.mono ?_;rintro e w1 ⟨u,defs,rfl,h1,h2,h3⟩;go_wp2_with fail
 go_ret;exact⟨u,defs,rfl,h1,h2,h3⟩
end Go.Proofs.YteopgmieindojaaGreat
namespace Go.Proofs
open Go.Shelf
def Tryz.sortDef_ren:Go.Shelf.Ren:=⟨fun|6=>160|15=>195|14=>194|28=>219|29=>220|20=>211|21=>212|22=>213|23=>214|24=>215|25=>216|26=>217|27=>218|46=>224|47=>225|48=>226|49=>227|50=>228|57=>230|n=>n,fun|22=>47|24=>60|25=>206|3=>3|39=>207|0=>0|53=>312|55=>171|4=>4|46=>306|45=>305|50=>144|5=>5|9=>9|66=>314|70=>269|76=>319|77=>162|n=>n,fun|n=>n⟩
theorem Tryz.sortDef:Go.Proofs.SlLaysF0.n6 Tryz.prog Tryz.sortDef_ren:={
 mixed:=by kernel_rfl
 f6:=⟨Tryz.f160.name,by decide,Tryz.func160.trans (congrArg some (by kernel_rfl))⟩
 f14:=⟨Tryz.f194.name,by decide,Tryz.func194.trans (congrArg some (by kernel_rfl))⟩
 f15:=Tryz.func195.trans (congrArg some (by kernel_rfl))
 f20:=⟨Tryz.f211.name,by decide,Tryz.func211.trans (congrArg some (by kernel_rfl))⟩
 f21:=⟨Tryz.f212.name,by decide,Tryz.func212.trans (congrArg some (by kernel_rfl))⟩
 f22:=⟨Tryz.f213.name,by decide,Tryz.func213.trans (congrArg some (by kernel_rfl))⟩
 f23:=⟨Tryz.f214.name,by decide,Tryz.func214.trans (congrArg some (by kernel_rfl))⟩
 f24:=⟨Tryz.f215.name,by decide,Tryz.func215.trans (congrArg some (by kernel_rfl))⟩
 f25:=⟨Tryz.f216.name,by decide,Tryz.func216.trans (congrArg some (by kernel_rfl))⟩
 f26:=⟨Tryz.f217.name,by decide,Tryz.func217.trans (congrArg some (by kernel_rfl))⟩
 f27:=⟨Tryz.f218.name,by decide,Tryz.func218.trans (congrArg some (by kernel_rfl))⟩
 f28:=Tryz.func219.trans (congrArg some (by kernel_rfl))
 f29:=Tryz.func220.trans (congrArg some (by kernel_rfl))
 f46:=⟨Tryz.f224.name,by decide,Tryz.func224.trans (congrArg some (by kernel_rfl))⟩
 f47:=Tryz.func225.trans (congrArg some (by kernel_rfl))
 f48:=Tryz.func226.trans (congrArg some (by kernel_rfl))
 f49:=⟨Tryz.f227.name,by decide,Tryz.func227.trans (congrArg some (by kernel_rfl))⟩
 f50:=⟨Tryz.f228.name,by decide,Tryz.func228.trans (congrArg some (by kernel_rfl))⟩
 f57:=⟨Tryz.f230.name,by decide,Tryz.func230.trans (congrArg some (by kernel_rfl))⟩
 t0:=Tryz.underlying0
 a0:=Tryz.isAgg0
 z0:=Tryz.sizeOf0
 v0:=Tryz.zeroValue0
 t3:=Tryz.underlying3
 a3:=Tryz.isAgg3
 z3:=Tryz.sizeOf3
 v3:=Tryz.zeroValue3
 t4:=Tryz.underlying4
 a4:=Tryz.isAgg4
 z4:=Tryz.sizeOf4
 v4:=Tryz.zeroValue4
 t5:=Tryz.underlying5
 a5:=Tryz.isAgg5
 z5:=Tryz.sizeOf5
 v5:=Tryz.zeroValue5
 t9:=Tryz.underlying9
 a9:=Tryz.isAgg9
 z9:=Tryz.sizeOf9
 v9:=Tryz.zeroValue9
 t22:=Tryz.underlying47
 a22:=Tryz.isAgg47
 z22:=Tryz.sizeOf47
 v22:=Tryz.zeroValue47
 t25:=Tryz.underlying206
 a25:=Tryz.isAgg206
 z25:=Tryz.sizeOf206
 v25:=Tryz.zeroValue206
 t39:=Tryz.underlying207
 a39:=Tryz.isAgg207
 z39:=Tryz.sizeOf207
 v39:=Tryz.zeroValue207
 t45:=Tryz.underlying305
 a45:=Tryz.isAgg305
 z45:=Tryz.sizeOf305
 v45:=Tryz.zeroValue305
 t46:=Tryz.underlying306
 a46:=Tryz.isAgg306
 z46:=Tryz.sizeOf306
 v46:=Tryz.zeroValue306
 t50:=Tryz.underlying144
 a50:=Tryz.isAgg144
 z50:=Tryz.sizeOf144
 v50:=Tryz.zeroValue144
 t53:=Tryz.underlying312
 a53:=Tryz.isAgg312
 z53:=Tryz.sizeOf312
 v53:=Tryz.zeroValue312
 t55:=Tryz.underlying171
 a55:=Tryz.isAgg171
 z55:=Tryz.sizeOf171
 v55:=Tryz.zeroValue171
 t66:=Tryz.underlying314
 a66:=Tryz.isAgg314
 z66:=Tryz.sizeOf314
 v66:=Tryz.zeroValue314
 t70:=Tryz.underlying269
 a70:=Tryz.isAgg269
 z70:=Tryz.sizeOf269
 v70:=Tryz.zeroValue269
 t76:=Tryz.underlying319
 a76:=Tryz.isAgg319
 z76:=Tryz.sizeOf319
 v76:=Tryz.zeroValue319
 t77:=Tryz.underlying162
 a77:=Tryz.isAgg162
 z77:=Tryz.sizeOf162
 v77:=Tryz.zeroValue162}
end Go.Proofs
