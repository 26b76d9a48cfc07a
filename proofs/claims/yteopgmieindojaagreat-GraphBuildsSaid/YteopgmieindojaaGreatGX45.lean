/- Parts of a proof. -/
import Derived.Test.YteopgmieindojaaGreatGX43
import Derived.Deep.RegionLaw
import Derived.Deep.AppendLies
import Derived.Test.YteopgmieindojaaGreatGX14
import Derived.Test.YteopgmieindojaaGreatGX26
set_option maxRecDepth 1000000
set_option maxHeartbeats 8000000
namespace Go.Proofs.YteopgmieindojaaGreat
open Go.RowKit
theorem Jmt(e:Et):∀u∈Il e,u.oneCell'=true:=fun u hu=>by
 simp only[Il,List.mem_cons,List.not_mem_nil,or_false]at hu;rcases hu with rfl|rfl|rfl|rfl|rfl<;>rfl
theorem Jow(nm:ByteArray)(t a:Int):∀u∈nmC (⟨nm,t,a⟩:NmD),u.oneCell'=true:=fun u hu=>by
 simp only[nmC,List.mem_cons,List.not_mem_nil,or_false]at hu;rcases hu with rfl|rfl|rfl<;>rfl
theorem Jrw{g9 g16 gn n cn i pm cm M:Nat}{cur:Array Value}{pe:Option Addr}{u1 u2 u3:Value}{e:Et}{es:List Et}{w:World}{Q:Exit→Act→World→Prop}{v0 v1 v2 v3 v4 v5 v6 v7 v8 v11 v12 v13 v14 v15 v17 v18 v19 v20 v21 v22 v23 v24:Value}{R:List Value}(hR:R.length=198)
 (hG:w.heap[g9]?=some (.cells #[.slice (some ⟨gn,0,none⟩) n cn,u1,u2,u3] 77 (0,0)))(hE:w.heap[g16]?=some (.cells #[.int .i64 e.off,.int .i64 e.type,.int .i64 e.add,.int .i64 e.to_,.int .i64 e.at_] 92 (0,0)))(hN:w.heap[gn]?=some (.cells cur 86 (0,0)))(hi:(i:Int) < (n:Int))(hc:w.cell? ⟨gn,i*14+10,none⟩=some (.slice pe pm cm))
 (ho:w.ownsRow M 92 5 (.slice pe pm cm) pm (es.flatMap Il))(hpm:pm≤1000000)(hM:M≤w.heap.size)
 (hQ:∀(R':List Value)(g3 cap3:Nat)(w1:World),R'.length=198→w1.ownsRow M 92 5 (.slice (some ⟨g3,0,none⟩) (pm+1) cap3) (pm+1) ((es++ [e]).flatMap Il)→(∀(N:Nat)(Ts:List TypeId)(w0:World),FrT N Ts w0 w→w0.heap.size≤M→FrT N Ts w0 w1)→w1.heap[g9]?=some (.cells #[.slice (some ⟨gn,0,none⟩) n cn,u1,u2,u3] 77 (0,0))→w1.heap[gn]?=some (.cells cur 86 (0,0))→Q .normal ⟨(List.toArray (v0::v1::v2::v3::v4::v5::v6::v7::v8:: .pointer (some ⟨g9,0,none⟩):: .int .i64 (i:Int)::v11::v12::v13::v14::v15:: .pointer (some ⟨g16,0,none⟩)::v17::v18::v19::v20::v21::v22::v23::v24::R')), []⟩ (w1.setCell ⟨gn,i*14+10,none⟩ (.slice (some ⟨g3,0,none⟩) (pm+1) cap3))):
 Code.wp Tryz.prog (Br 25) Q ⟨(List.toArray (v0::v1::v2::v3::v4::v5::v6::v7::v8:: .pointer (some ⟨g9,0,none⟩):: .int .i64 (i:Int)::v11::v12::v13::v14::v15:: .pointer (some ⟨g16,0,none⟩)::v17::v18::v19::v20::v21::v22::v23::v24::R)), []⟩ w:=by
 have HQ:=Aa hQ;clear hQ;rw[Cu R hR];refine Jo ?_
 conv=>arg 2;whnf
 obtain⟨i0,hi0,hz0,hz1,hz2⟩:=info_parts Tryz.infoEdge;have HI:=Aa hi0;have H0:=Aa hz0;have H1:=Aa hz1;have H2:=Aa hz2;have y0:w.cell? ⟨g9,0,none⟩=some (.slice (some ⟨gn,0,none⟩) n cn):=Bi hG 0 _ rfl;have e0:w.cell? ⟨g16,0,none⟩=some (.int .i64 e.off):=Bi hE 0 _ rfl;have e1:w.cell? ⟨g16,1,none⟩=some (.int .i64 e.type):=Bi hE 1 _ rfl;have e2:w.cell? ⟨g16,2,none⟩=some (.int .i64 e.add):=Bi hE 2 _ rfl;have e3:w.cell? ⟨g16,3,none⟩=some (.int .i64 e.to_):=Bi hE 3 _ rfl;have e4:w.cell? ⟨g16,4,none⟩=some (.int .i64 e.at_):=Bi hE 4 _ rfl;have j0:(0:Int)≤(i:Int):=by omega
 have hba:Below w.heap.size w (w.alloc (.cells #[.int .i64 e.off,.int .i64 e.type,.int .i64 e.add,.int .i64 e.to_,.int .i64 e.at_] 92)):=(Ag _ w).alloc (Af _) _;have y0a:=Ax hba y0;have hca:=Ax hba hc;have HOA:=Aa ((ho.alloc (.cells #[.int .i64 e.off,.int .i64 e.type,.int .i64 e.add,.int .i64 e.to_,.int .i64 e.at_] 92)).drew);have HGA:=Aa (FrT.heap (N:=M) (Ts:= []) (FrT.of_below hba.drew) hG (by simp));have HNA:=Aa (FrT.heap (N:=M) (Ts:= []) (FrT.of_below hba.drew) hN (by simp));have HN0:=Aa hN;have HBA:=Aa hba.drew;have HHO:=Aa ho;clear hi0 hz0 hz1 hz2 hG hE hN ho hba
 go_region_law (first
  |(refine step_append_lies _ (by rfl) _ _ _ (by rfl) M 92 i0 _ 5 40 Tryz.underlying84 HI.out H0.out H1.out H2.out rfl (by decide) _ pm _ (by rfl) HOA.out ⟨w.heap.size,0,none⟩ 1 1 (Il e) (by rfl) (by rfl) (Fi w #[.int .i64 e.off,.int .i64 e.type,.int .i64 e.add,.int .i64 e.to_,.int .i64 e.at_] 92) (Jmt e) (by omega) (by unfold maxLen;omega) (by omega) (by simp;omega) _ rfl ?_
    intro g3 cap3 w1 hown1 hgrow1 _ _;have hfr:FrT M [92] _ w1:=FrT.grown HOA.out hgrow1 (by simp) (Af _);have hG1:=hfr.heap HGA.out (by decide);have hN1:=hfr.heap HNA.out (by decide);have y0w:w1.cell? ⟨g9,0,none⟩=some (.slice (some ⟨gn,0,none⟩) n cn):=Bi hG1 0 _ rfl;have hcw:w1.cell? ⟨gn,i*14+10,none⟩=some (.slice pe pm cm):=by
     rw[Am w1 gn _ _ _ (0,0) hN1,←Am w gn _ _ _ (0,0) HN0.out];exact hc
    have hfw:=Ap w1 gn (i*14+10) _ _ hN1
    have HO1:Hid (w1.ownsRow M 92 5 (.slice (some ⟨g3,0,none⟩) (pm+1) cap3) (pm+1) ((es++ [e]).flatMap Il)):=Aa (by
     rw[List.flatMap_append]
     simpa using hown1)
    have HF1:Hid (∀(N:Nat)(Ts:List TypeId)(w0:World),FrT N Ts w0 w→w0.heap.size≤M→FrT N Ts w0 w1):=Aa fun N Ts w0 h0 hs=>FrT.grownNew (h0.trans (FrT.of_below HBA.out)) hgrow1 fun b hb=>Aw hs (HHO.out.lt b hb).1;have HN1:=Aa hN1;have HG1:=Aa hG1
    clear hfr hG1 hN1 hown1 hgrow1)
  |fail)
 all_goals go_wp2_with fail
 all_goals exact HQ.out _ _ _ w1 rfl HO1.out HF1.out HG1.out HN1.out
theorem Jrp{g6 g9 bf of_ n cf i pm cm M:Nat}{pe:Option Addr}{u u0 u1 u2:Value}{nm:ByteArray}{t a:Int}{ms:List NmD}{w:World}{Q:Exit→Act→World→Prop}{v0 v1 v2 v3 v4 v5 v7 v8 v10 v11 v12 v13 v14 v15 v16 v17 v18 v19 v21 v22:Value}{R:List Value}(hR:R.length=198)
 (hG:w.heap[g9]?=some (.cells #[u0,u1,u2,.slice pe pm cm] 77 (0,0)))(hT:w.heap[g6]?=some (.cells #[u,.slice (some ⟨bf,of_,none⟩) n cf] 54 (0,0)))(d0:w.cell? ⟨bf,of_+i*3,none⟩=some (.string nm))(hi:(i:Int) < (n:Int))
 (ho:w.ownsRow M 96 3 (.slice pe pm cm) pm (ms.flatMap nmC))(hpm:pm≤1000000)(hM:M≤w.heap.size)
 (hQ:∀(R':List Value)(g3 cap3:Nat)(w1:World),R'.length=198→w1.ownsRow M 96 3 (.slice (some ⟨g3,0,none⟩) (pm+1) cap3) (pm+1) ((ms++ [(⟨nm,t,a⟩:NmD)]).flatMap nmC)→FrT M [96] w w1→w1.heap[g9]?=some (.cells #[u0,u1,u2,.slice pe pm cm] 77 (0,0))→Q .normal ⟨(List.toArray (v0::v1::v2::v3::v4::v5:: .pointer (some ⟨g6,0,none⟩)::v7::v8:: .pointer (some ⟨g9,0,none⟩)::v10::v11::v12::v13::v14::v15::v16::v17::v18::v19:: .int .i64 (i:Int)::v21::v22:: .int .i64 t:: .int .i64 a::R')), []⟩ (w1.setCell ⟨g9,3,none⟩ (.slice (some ⟨g3,0,none⟩) (pm+1) cap3))):
 Code.wp Tryz.prog (Br 33) Q ⟨(List.toArray (v0::v1::v2::v3::v4::v5:: .pointer (some ⟨g6,0,none⟩)::v7::v8:: .pointer (some ⟨g9,0,none⟩)::v10::v11::v12::v13::v14::v15::v16::v17::v18::v19:: .int .i64 (i:Int)::v21::v22:: .int .i64 t:: .int .i64 a::R)), []⟩ w:=by
 have HQ:=Aa hQ;clear hQ;rw[Cu R hR];refine Jo ?_
 conv=>arg 2;whnf
 obtain⟨i0,hi0,hz0,hz1,hz2⟩:=info_parts Tryz.infoName;have HI:=Aa hi0;have H0:=Aa hz0;have H1:=Aa hz1;have H2:=Aa hz2;have y3:w.cell? ⟨g9,3,none⟩=some (.slice pe pm cm):=Bi hG 3 _ rfl;have z1:w.cell? ⟨g6,1,none⟩=some (.slice (some ⟨bf,of_,none⟩) n cf):=Bi hT 1 _ rfl;have j0:(0:Int)≤(i:Int):=by omega
 have hba:Below w.heap.size w (w.alloc (.cells #[.string nm,.int .i64 t,.int .i64 a] 96)):=(Ag _ w).alloc (Af _) _;have y3a:=Ax hba y3;have HOA:=Aa ((ho.alloc (.cells #[.string nm,.int .i64 t,.int .i64 a] 96)).drew);have HGA:=Aa (FrT.heap (N:=M) (Ts:= []) (FrT.of_below hba.drew) hG (by simp));have HBA:=Aa hba.drew;have HHO:=Aa ho;clear hi0 hz0 hz1 hz2 hG hT ho hba
 go_region_law (first
  |(refine step_append_lies _ (by rfl) _ _ _ (by rfl) M 96 i0 _ 3 32 Tryz.underlying75 HI.out H0.out H1.out H2.out rfl (by decide) _ pm _ (by rfl) HOA.out ⟨w.heap.size,0,none⟩ 1 1 (nmC (⟨nm,t,a⟩:NmD)) (by rfl) (by rfl) (Fi w #[.string nm,.int .i64 t,.int .i64 a] 96) (Jow nm t a) (by omega) (by unfold maxLen;omega) (by omega) (by simp;omega) _ rfl ?_
    intro g3 cap3 w1 hown1 hgrow1 _ _;have hfr:FrT M [96] _ w1:=FrT.grown HOA.out hgrow1 (by simp) (Af _);have hG1:=hfr.heap HGA.out (by decide);have y3w:w1.cell? ⟨g9,3,none⟩=some (.slice pe pm cm):=Bi hG1 3 _ rfl;have hfw:=Ap w1 g9 3 _ _ hG1
    have HO1:Hid (w1.ownsRow M 96 3 (.slice (some ⟨g3,0,none⟩) (pm+1) cap3) (pm+1) ((ms++ [(⟨nm,t,a⟩:NmD)]).flatMap nmC)):=Aa (by
     rw[List.flatMap_append]
     simpa using hown1)
    have HF1:Hid (FrT M [96] w w1):=Aa ((FrT.of_below HBA.out).trans hfr);have HG1:=Aa hG1
    clear hfr hG1 hown1 hgrow1)
  |fail)
 all_goals go_wp2_with fail
 all_goals exact HQ.out _ _ _ w1 rfl HO1.out HF1.out HG1.out
end Go.Proofs.YteopgmieindojaaGreat
