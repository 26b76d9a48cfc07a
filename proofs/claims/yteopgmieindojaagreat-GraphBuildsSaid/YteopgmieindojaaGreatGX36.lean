/- Parts of a proof. -/
import Derived.Test.YteopgmieindojaaGreatGX35
import Derived.Test.YteopgmieindojaaGreatGX04
set_option maxRecDepth 1000000
set_option maxHeartbeats 8000000
namespace Go.Proofs.YteopgmieindojaaGreat
open Go.RowKit
theorem Zc(v0 v1 v2 v4:Value)(sg:Bool)(sig:List Int)(w:World)(hx:IsL 1 Cc w v4 sig)(hl:sig.length≤20000)(hf:∀n∈sig,Bu n=true):
 Calls Tryz.prog 133 #[Gq v0 v1 v2 sg v4] w (Hq 228 false w.heap.size ((bif sg then [Jv 0 sig]else []).map szP) w):=by
 obtain⟨i1,gi,gz0,gz1,gz2⟩:=info_parts Tryz.infoU8;have GI:=Aa gi;have G0:=Aa gz0;have G1:=Aa gz1;have G2:=Aa gz2;have hb1:Below w.heap.size w (w.alloc (.cells #[v0,v1,v2,.bool sg,v4] 27)):=(Ag _ w).alloc (Af _) _;have hq4:=hx.below Cc.keeps hb1;obtain⟨p4,c4,rfl,x1,x2,_,hxh⟩:=hq4;have a3:(w.alloc (.cells #[v0,v1,v2,.bool sg,.slice p4 sig.length c4] 27)).cell? ⟨w.heap.size,3,none⟩=some (.bool sg):=by simp
 have a4:(w.alloc (.cells #[v0,v1,v2,.bool sg,.slice p4 sig.length c4] 27)).cell? ⟨w.heap.size,4,none⟩=some (.slice p4 sig.length c4):=by simp
 have HX:=Aa hf;have HXH:=Aa hxh;have HB1:=Aa hb1;have hbs1:=hb1.size;generalize hres:(bif sg then [Jv 0 sig]else []).map szP=res at*;have HRES:=Aa hres;generalize hxl:sig.length=xl at*;have HXL:=Aa hxl;clear hx hf hb1 hxh hxl x1 x2 gi gz0 gz1 gz2 hres;go_enter Tryz.func133,Tryz.ntmps133;go_upto_region 1 with fail
 generalize w.alloc (.cells #[v0,v1,v2,.bool sg,.slice p4 xl c4] 27)=W1 at*;cases sg with
 |false=>
  have hE:Hid (res= []):=Aa (by rw[←HRES.out];rfl);go_wp2_with fail
  go_ret;rw[hE.out];exact⟨.slice none 0 0, [],rfl,Aq _ _ _ _,Bf.nil _ _,HB1.out⟩
 |true=>
  have hE:Hid (res= [szP (Jv 0 sig)]):=Aa (by rw[←HRES.out];rfl);clear HRES;go_wp2_with fail
  go_loopw [3,12] (fun r3 r12 wx=>∃(j n:Nat),j≤xl∧r12= .int .i64 (j:Int)∧n≤5*j∧wx.ownsRow W1.heap.size 5 1 r3 n ((Jk (sig.take j)).map u8v)∧Below W1.heap.size W1 wx) (fun _ r12 _=>xl - (intOf r12).toNat)
  case atStart=>exact⟨0,0,Ak _,rfl,Af _,Aq _ _ _ _,Ag _ _⟩
  case round=>
   obtain⟨j,n,hj,rfl,hn,hob,hbx⟩:=hrel;have hbxs:=hbx.size;by_cases hjl:j < xl
   ·obtain⟨b2,off2,m,rfl,hmj,x0,_⟩:=HXH.out.at_ (i:=j) (by rw[HXL.out];exact hjl);have d0:=Ax hbx x0;rw[Nat.mul_one]at d0;have hfm:=(Bv m).1 (HX.out m (Ad hmj));have HC:Hid (∀W,Calls Tryz.prog 177 #[.int .i64 m] W (Fe (ulebB 5 m.toNat) W)):=Aa fun W=>by
     have:=Jmp m.toNat W (by omega)
     rwa [Int.toNat_of_nonneg hfm.1]at this
    have HST:Hid (Jk (sig.take (j+1))=Jk (sig.take j)++ulebB 5 m.toNat):=Aa (by rw[List.take_add_one,hmj];exact Xi _ _);have hJ1:(j:Int) < (xl:Int):=by omega
    have hJ2:(0:Int)≤(j:Int):=by omega
    have hul:=Lk 5 m.toNat;clear hmj x0 hfm;generalize ulebB 5 m.toNat=ub at*;generalize hubl:ub.length=ul at*;have HUL:=Aa hubl;clear hubl;go_wp2_with fail
    refine(HC.out _).mono ?_;rintro e w2 ⟨v2',rfl,hown2,hbb2⟩;rw[HUL.out]at hown2;have hob2:=Ed hob hbb2;have hbx2:Below W1.heap.size W1 w2:=hbx.trans (hbb2.mono hbxs);obtain⟨p2,cc2,rfl,g1,g2,g3,g4⟩:=Has.of_owns hown2;have hpn:=Fv hown2;have HG4:=Aa g4;have HG3:=Aa g3;clear hown2 hbb2 hob hbx d0 g4 g3;go_wp2_with (at_builtin;refine Cd _ rfl (.tmp 16) (.tmp 18) 31 rfl W1.heap.size 5 i1 Tryz.underlying31 GI.out G0.out G1.out G2.out _ n _ rfl hob2 p2 ul cc2 ub rfl HG4.out HG3.out hpn (by omega) hbx2.size ?_)
    intro v3 w3 hob3 hg3 _;have hbx3:Below W1.heap.size W1 w3:=hbx2.grown hg3 hbx2.size (fun g hg=>(hob2.lt g hg).1);rw[←List.map_append,←HST.out]at hob3;clear hob2 hbx2 hg3;go_wp2_with fail
    go_roundw
    case rel=>exact⟨j+1,n+ul,hjl,by go_num,by omega,hob3,hbx3⟩
    case measure=>simp[intOf];omega
   ·obtain rfl:j=xl:=by omega
    rw[List.take_of_length_le (by rw[HXL.out];exact Af _)]at hob;have hJ1:¬(j:Int) < (j:Int):=by omega
    have hlen:(Jk sig).length=n:=by have:=hob.1;simpa using this
    have hlt:=fun b hb=>(hob.lt b hb)
    obtain⟨p6,c6,rfl,_,_,_,_⟩:=Has.of_owns hob;have HNP:=Aa fun W=>Kz Qg (Lb 0) p6 n c6 W;have hsl:Bf wr (fun b=>w.heap.size≤b∧b < wr.heap.size) [⟨szT (Lb 0) n,Qg,(.slice p6 n c6)⟩] [⟨szT (Lb 0) n,Qg,Jk sig⟩]:=Bf.one (SlB.of_owns hob fun b hb=>⟨by have:=(hlt b hb).1;omega,(hlt b hb).2⟩);have HSL:=Aa hsl
    have hE2:Hid (res= [⟨szT (Lb 0) n,Qg,Jk sig⟩]):=Aa (by
     rw[hE.out];unfold szP Jv
     rw[hlen])
    have hbw:Below w.heap.size w wr:=HB1.out.trans (hbx.mono hbs1);have hbws:=hbw.size;clear hob hn hlen hsl hlt hbx;go_wp2_with fail
    refine(HNP.out _).mono ?_;rintro e w5 ⟨rfl,hbb5⟩;have hb5:Below w.heap.size w w5:=hbw.trans (hbb5.mono hbws);have hb5s:=hb5.size;have hb6:=hbb5.size;have HSL5:=Aa (HSL.out.below hbb5);clear hbb5 HSL hbw;go_wp2_with fail
    go_ret;rw[hE2.out];refine⟨.slice (some ⟨w5.heap.size,0,none⟩) 1 1, [⟨szT (Lb 0) n,Qg,(.slice p6 n c6)⟩],rfl,World.ownsRow_lit w5 _ 1 hb5s (by unfold maxLen;omega) rfl,?_,hb5.alloc hb5s _⟩;refine Bf.weaken (K:=fun b=>w.heap.size≤b∧b < wr.heap.size) (HSL5.out.below ((Ag _ w5).alloc (Af _) _)) ?_;intro b _ h;refine⟨h.1,fun he=>?_⟩;have he:b=w5.heap.size:=Option.some.inj he;omega
end Go.Proofs.YteopgmieindojaaGreat
