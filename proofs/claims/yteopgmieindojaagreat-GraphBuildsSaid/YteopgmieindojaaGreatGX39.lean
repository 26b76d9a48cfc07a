/- Parts of a proof. -/
import Derived.Test.YteopgmieindojaaGreatGX36
import Derived.Test.YteopgmieindojaaGreatGX23
import Derived.Test.YteopgmieindojaaGreatGX38
import Derived.Deep.RegionHeld3
import Derived.Deep.DeepCutAuto
import Derived.Test.YteopgmieindojaaGreatGX35
import Derived.Lib.AppendZeros
set_option maxRecDepth 1000000
set_option maxHeartbeats 8000000
namespace Go.Proofs.YteopgmieindojaaGreat
open Go.RowKit
def Jpo(l:List Ct):Prop:=∀s∈l,mayB (lst s.name)=true∧Bu s.value=true∧Bu s.size=true∧0≤s.bind∧s.bind≤2∧0≤s.type∧s.type≤3∧ -1≤s.sec∧s.sec≤40
theorem Jr9{x:Int}(h: -1≤x):(if x < 0 then 65521 else x)=symIdx x:=by
 unfold symIdx;by_cases h1:x= -1
 ·subst h1;rfl
 ·rw[if_neg h1,if_neg (by omega)]
theorem Yy(p1:Option Addr)(c1:Nat)(syms:List Ct)(a:Int)(w:World)(ha:0≤a∧a≤1000)(hq:Bg 6 Ie w p1 syms)(hny:syms.length≤140)(hm:Jpo syms):
 Calls Tryz.prog 134 #[.slice p1 syms.length c1,.int .i64 a] w (Hq 228 false w.heap.size ((symPs a syms).map szP) w):=by
 obtain⟨i0,hi,hz0,hz1,hz2⟩:=info_parts Tryz.infoStr;have HI:=Aa hi;have H0:=Aa hz0;have H1:=Aa hz1;have H2:=Aa hz2;obtain⟨i1,gi,gz0,gz1,gz2⟩:=info_parts Tryz.infoU8;have GI:=Aa gi;have G0:=Aa gz0;have G1:=Aa gz1;have G2:=Aa gz2;have HS:=Aa hm;have HQ:=Aa hq;have hres:(symPs a syms).map szP= [szP ⟨Gu a (Ei syms),Gc,Fm (Dm syms) syms⟩,szP ⟨Dc,Gd,(Cj (Dm syms)).tb⟩]:=rfl;generalize (symPs a syms).map szP=res at*;generalize hyl:syms.length=yl at*;have HYL:=Aa hyl;have HRES:=Aa hres;have ka:IntKind.i64.wrap (a+1)=a+1:=Al _ (by omega);clear hq hm hi hz0 hz1 hz2 gi gz0 gz1 gz2 hyl hres;go_enter Tryz.func134,Tryz.ntmps134;go_upto_block 0 with fail;go_cut [5] (fun r5 wr=>wr.ownsRow w.heap.size 9 1 r5 yl ((Hg syms).map Value.string)∧Below w.heap.size w wr)
 case first=>
  clear HRES;go_wp2_with fail
  go_loopw [5,17] (fun r5 r17 wr=>∃(k:Nat),k≤yl∧r17= .int .i64 (k:Int)∧wr.ownsRow w.heap.size 9 1 r5 k ((Hg (syms.take k)).map Value.string)∧Below w.heap.size w wr) (fun _ r17 _=>yl - (intOf r17).toNat)
  case atStart=>exact⟨0,Ak _,rfl,Aq _ _ _ _,Ag _ _⟩
  case round=>
   obtain⟨k,hk,rfl,hown,hb⟩:=hrel;by_cases hlt:k < yl
   ·obtain⟨b,off,s,rfl,hsk,⟨d0,_⟩,⟨d1,_⟩,⟨d2,_⟩,⟨d3,_⟩,⟨d4,_⟩,⟨d5,_⟩⟩:=HQ.out.at_ (i:=k) (by rw[HYL.out];exact hlt);have e0:=Ax hb d0;have e1:=Ax hb d1;have e2:=Ax hb d2;have e3:=Ax hb d3;have e4:=Ax hb d4;have e5:=Ax hb d5;have hst:Hg (syms.take (k+1))=Hg (syms.take k)++ [s.name]:=by unfold Hg;rw[List.take_add_one,hsk];simp
    have HST:=Aa hst;have hba:Below wr.heap.size wr (wr.alloc (.cells #[.string s.name,.int .i64 s.bind,.int .i64 s.type,.int .i64 s.sec,.int .i64 s.value,.int .i64 s.size] 98)):=(Ag _ wr).alloc (Af _) _;have hha:=Dd wr (.cells #[.string s.name,.int .i64 s.bind,.int .i64 s.type,.int .i64 s.sec,.int .i64 s.value,.int .i64 s.size] 98);have hJ:(k:Int) < (yl:Int):=by omega
    have k2:(0:Int)≤(k:Int):=by omega
    have hbs:=hb.size;clear hsk d0 d1 d2 d3 d4 d5 hst;go_upto_region 5 with fail
    generalize wr.alloc (.cells #[.string s.name,.int .i64 s.bind,.int .i64 s.type,.int .i64 s.sec,.int .i64 s.value,.int .i64 s.size] 98)=ws at*;obtain⟨s0,_⟩:=Oj _ _ _ _ _ _ _ _ _ hha;have hown2:=Bd hown hba;have hb2:Below w.heap.size w ws:=hb.trans (hba.mono hbs);have hb2s:=hb2.size;clear e0 e1 e2 e3 e4 e5 hha hown hb hba;go_wp2_with (at_builtin;refine wpList_append_own _ rfl (.tmp 21) (.tmp 24) 109 rfl w.heap.size 9 i0 _ 1 16 Tryz.underlying109 HI.out H0.out H1.out H2.out rfl (by decide) _ k _ rfl (hown2.alloc _) ⟨ws.heap.size,0,none⟩ 1 1 [.string s.name] rfl rfl (cell_one_new ws _ _) (Pw _) (by unfold maxLen;omega) (by omega) (by simp;omega) ?_)
    intro v3 w4 hown4 hg4 _;have hb4:Below w.heap.size w w4:=(hb2.alloc hb2.size _).grown hg4 (by simp;omega) (fun g hg=>(hown2.lt g hg).1);rw[Sm,←HST.out]at hown4;clear hown2 hg4 hb2;go_wp2_with fail
    go_roundw
    case rel=>exact⟨k+1,hlt,by go_num,hown4,hb4⟩
    case measure=>simp[intOf];omega
   ·obtain rfl:k=yl:=by omega
    have hJ:¬(k:Int) < (k:Int):=by omega
    have hE:Hid (syms.take k=syms):=Aa (List.take_of_length_le (by rw[HYL.out];exact Af _));rw[hE.out]at hown;go_wp2_with fail
    go_meet;exact⟨hown,hb⟩
 case rest=>
  obtain⟨hown,hb⟩:=hcut;have HPB:=Aa (Uf syms (by rw[HYL.out];omega) fun s hs=>(HS.out s hs).1);obtain⟨p5,c5,rfl,n1,n2,n3,hns⟩:=Rl.of_owns hown;have hnm:Dm syms=(Hg syms).map lst:=by unfold Dm Hg;simp
  have hmb:∀s∈Hg syms,mayB (lst s)=true:=fun s hs=>by
   obtain⟨y,hy,rfl⟩:=List.mem_map.1 hs;exact(HS.out y hy).1
  have HMK:=Aa (Yz p5 yl c5 _ _ hns n3 (by omega) hmb);rw[←hnm]at HMK;clear hown hns hmb hnm n1 n2 n3;generalize hnsd:Dm syms=ns at*;generalize wc=wo at*;have HNS:=Aa hnsd;have HW:Hid (Below w.heap.size w wo):=Aa hb;have hbs:=hb.size;clear hnsd hb;go_wp2_with fail
  refine HMK.out.mono ?_;rintro e wm ⟨t1,t2,rfl,ht,hpl,hbm⟩;have hbms:=hbm.size;have hpll:(placesOf ns).length=yl:=by rw[Gb,←HNS.out];unfold Dm;rw[List.length_map];exact HYL.out
  rw[hpll]at hpl;clear hpll;go_wp2_with fail
  go_loopw [10,11,34] (fun r10 r11 r34 wx=>∃(k n l:Nat),k≤yl∧r34= .int .i64 (k:Int)∧r11= .int .i64 (l:Int)∧l=Ei (syms.take k)∧l≤k∧n=24*k∧wx.ownsRow wm.heap.size 5 1 r10 n ((Fm ns (syms.take k)).map u8v)∧Below wm.heap.size wm wx) (fun _ _ r34 _=>yl - (intOf r34).toNat)
  case atStart=>exact⟨0,0,0,Ak _,rfl,rfl,rfl,Af _,rfl,Aq _ _ _ _,Ag _ _⟩
  case round=>
   obtain⟨k,n,l,hk,rfl,rfl,hll,hlk,hn,hob,hbx⟩:=hrel;have HLL:=Aa hll;have HN:=Aa hn;have hbxs:=hbx.size;by_cases hlt:k < yl
   ·obtain⟨b,off,s,rfl,hsk,⟨d0,_⟩,⟨d1,_⟩,⟨d2,_⟩,⟨d3,hb3b⟩,⟨d4,_⟩,⟨d5,_⟩⟩:=HQ.out.at_ (i:=k) (by rw[HYL.out];exact hlt);have hw1x:Below w.heap.size w wr:=HW.out.trans ((hbm.trans (hbx.mono hbms)).mono hbs);have e0:=Ax hw1x d0;have e1:=Ax hw1x d1;have e2:=Ax hw1x d2;have e3:=Ax hw1x d3;have e4:=Ax hw1x d4;have e5:=Ax hw1x d5;obtain⟨g,gc,cur,rfl,_,_,_,hgc,hgm,_,_⟩:=Oo hpl (by omega);have hpx:=Bd hpl hbx;have hsy:=HS.out s (Ad hsk);have hpc:wr.cell? ⟨g,k,none⟩=some (.int .i64 (placeOf ns (lst s.name):Int)):=by
     rw[hpx.cellAt k (by omega)];have hns:ns[k]?=some (lst s.name):=by rw[←HNS.out];unfold Dm;rw[List.getElem?_map,hsk];rfl
     simp only[Hh,placesOf,List.map_map,List.getElem?_map,hns];rfl
    have hpb:placeOf ns (lst s.name)≤2147483647:=HPB.out s (Ad hsk);have hmay:(Ko (placeOf ns (lst s.name)) s).may:=by
     obtain⟨m1,m2,m3,m4,m5,m6,m7,m8,m9⟩:=hsy;refine⟨(Bv _).2 ⟨by unfold Ko;simp,by unfold Ko;simp;omega⟩,m2,m3,m4,m5,m6,m7,?_,?_⟩<;>(show _;unfold Ko symIdx;simp only;split<;>omega)
    have hix:=Jr9 hsy.2.2.2.2.2.2.2.1;have HIX:=Aa fun W=>Jkt s.sec W;have hst:Fm ns (syms.take (k+1))=Fm ns (syms.take k)++entB (Ko (placeOf ns (lst s.name)) s):=by rw[List.take_add_one,hsk];exact Vr _ _ _
    have hlo:Ei (syms.take (k+1))=Ei (syms.take k)+(bif s.bind==0 then 1 else 0):=by rw[List.take_add_one,hsk];exact Tj _ _
    have ht6:Ko (placeOf ns (lst s.name)) s=⟨(placeOf ns (lst s.name):Int),s.bind,s.type,symIdx s.sec,s.value,s.size⟩:=rfl;rw[ht6]at hmay hst;rw[hix]at HIX;generalize symIdx s.sec=ix at*;generalize placeOf ns (lst s.name)=pl at*;have HC:=Aa fun W=>(Jps ⟨(pl:Int),s.bind,s.type,ix,s.value,s.size⟩ W).1 hmay;have hel:=Rp ⟨(pl:Int),s.bind,s.type,ix,s.value,s.size⟩;generalize entB ⟨(pl:Int),s.bind,s.type,ix,s.value,s.size⟩=eb at*;have HEL:=Aa hel;have HST:=Aa hst;have HLO:=Aa hlo;have hJ:(k:Int) < (yl:Int):=by omega
    have k2:(0:Int)≤(k:Int):=by omega
    have hba:Below wr.heap.size wr (wr.alloc (.cells #[.string s.name,.int .i64 s.bind,.int .i64 s.type,.int .i64 s.sec,.int .i64 s.value,.int .i64 s.size] 98)):=(Ag _ wr).alloc (Af _) _;have hpa:=Ax hba hpc;have hha:=Dd wr (.cells #[.string s.name,.int .i64 s.bind,.int .i64 s.type,.int .i64 s.sec,.int .i64 s.value,.int .i64 s.size] 98);have hsz:Hid ((wr.alloc (.cells #[.string s.name,.int .i64 s.bind,.int .i64 s.type,.int .i64 s.sec,.int .i64 s.value,.int .i64 s.size] 98)).heap.size=wr.heap.size+1):=Aa (by simp);clear hsk d0 d1 d2 d3 d4 d5 hw1x hpx hsy hmay hst hlo hll hn hix ht6 hel hpc hb3b;go_upto_region 13 with fail
    generalize wr.alloc (.cells #[.string s.name,.int .i64 s.bind,.int .i64 s.type,.int .i64 s.sec,.int .i64 s.value,.int .i64 s.size] 98)=ws at*;obtain⟨s0,s1,s2,s3,s4,s5⟩:=Oj _ _ _ _ _ _ _ _ _ hha;go_cut [14] (fun s14 wx=>s14= .pointer (some ⟨ws.heap.size,0,none⟩)∧wx=ws.drew.alloc (.cells #[.int .i64 (pl:Int),.int .i64 s.bind,.int .i64 s.type,.int .i64 ix,.int .i64 s.value,.int .i64 s.size] 281))
    case first=>
     clear e0 e1 e2 e3 e4 e5 hba;go_region_held3 (fun W=>W.cell? ⟨g,k,none⟩=some (.int .i64 (pl:Int))∧W.cell? ⟨wr.heap.size,1,none⟩=some (.int .i64 s.bind)∧W.cell? ⟨wr.heap.size,2,none⟩=some (.int .i64 s.type)∧W.cell? ⟨wr.heap.size,3,none⟩=some (.int .i64 s.sec)∧W.cell? ⟨wr.heap.size,4,none⟩=some (.int .i64 s.value)∧W.cell? ⟨wr.heap.size,5,none⟩=some (.int .i64 s.size)) (first|go_keep|exact⟨hpa,s1,s2,s3,s4,s5⟩|fail)
      ((first
        |(go_at_call 178
          refine(HIX.out _).mono ?_
          rintro e w' ⟨rfl,rfl⟩)
        |fail))
     all_goals
      go_wp2_with fail
      go_meet;exact⟨rfl,rfl⟩
    case rest=>
     obtain⟨rfl,rfl⟩:=hcut;have hbe:Below ws.heap.size ws (ws.drew.alloc (.cells #[.int .i64 (pl:Int),.int .i64 s.bind,.int .i64 s.type,.int .i64 ix,.int .i64 s.value,.int .i64 s.size] 281)):=Xm ws _;have hwe:=hba.trans (hbe.mono hba.size);have t1':=Ax hbe s1;have hhe:(ws.drew.alloc (.cells #[.int .i64 (pl:Int),.int .i64 s.bind,.int .i64 s.type,.int .i64 ix,.int .i64 s.value,.int .i64 s.size] 281)).heap[ws.heap.size]?=some (.cells #[.int .i64 (pl:Int),.int .i64 s.bind,.int .i64 s.type,.int .i64 ix,.int .i64 s.value,.int .i64 s.size] 281 (0,0)):=Dd ws.drew _;generalize (ws.drew.alloc (.cells #[.int .i64 (pl:Int),.int .i64 s.bind,.int .i64 s.type,.int .i64 ix,.int .i64 s.value,.int .i64 s.size] 281))=we at*;obtain⟨f0,f1,f2,f3,f4,f5⟩:=Oj _ _ _ _ _ _ _ _ _ hhe;have hob1:=Bd hob hwe;have hobl:=fun b hb=>(hob.lt b hb).2;have hbxe:Below wm.heap.size wm we:=hbx.trans (hwe.mono hbxs);have hbxes:=hbxe.size;clear s0 s1 s2 s3 s4 s5 hha hpa hba hbe e0 e1 e2 e3 e4 e5 hob hbx hhe hwe;go_wp2_with fail
     refine(HC.out _).mono ?_;rintro e w2 ⟨v2',rfl,hown2,hbb2⟩;rw[HEL.out]at hown2;have hob2:=Ed hob1 hbb2;have u1':=Ax hbb2 t1';have hbx2:Below wm.heap.size wm w2:=hbxe.trans (hbb2.mono hbxes);obtain⟨p2,cc2,rfl,g1,g2,g3,g4⟩:=Has.of_owns hown2;have hpn:=Fv hown2;have HG4:=Aa g4;have HG3:=Aa g3;have hn80:n≤5000:=by have:=HN.out;omega
     clear hown2 hbb2 hob1 hbxe g4 g3 f0 f1 f2 f3 f4 f5 t1';go_wp2_with (at_builtin;refine Cd _ rfl (.tmp 55) (.tmp 57) 31 rfl wm.heap.size 5 i1 Tryz.underlying31 GI.out G0.out G1.out G2.out _ n _ rfl hob2 p2 24 cc2 eb rfl HG4.out HG3.out hpn (by omega) hbx2.size ?_)
     intro v3 w3 hob3 hg3 _;have hbx3:Below wm.heap.size wm w3:=hbx2.grown hg3 hbx2.size (fun g hg=>(hob2.lt g hg).1);have y1':=hg3.cell u1' (fun e=>Nat.lt_irrefl _ (hobl _ e.symm));rw[←List.map_append,←HST.out]at hob3;have hlk2:l+1≤1000:=by omega
     clear hob2 hbx2 hg3 u1' hobl;cases hbd:(s.bind==0)with
     |true=>
      have hE:Hid (l+1=Ei (syms.take (k+1))):=Aa (by rw[HLO.out,hbd,←HLL.out];rfl);go_wp2_with fail
      go_roundw
      case rel=>exact⟨k+1,n+24,l+1,hlt,by go_num,by go_num,hE.out,by omega,by have:=HN.out;omega,hob3,hbx3⟩
      case measure=>simp[intOf];omega
     |false=>
      have hE:Hid (l=Ei (syms.take (k+1))):=Aa (by rw[HLO.out,hbd,←HLL.out];rfl);go_wp2_with fail
      go_roundw
      case rel=>exact⟨k+1,n+24,l,hlt,by go_num,rfl,hE.out,by omega,by have:=HN.out;omega,hob3,hbx3⟩
      case measure=>simp[intOf];omega
   ·obtain rfl:k=yl:=by omega
    have hJ:¬(k:Int) < (k:Int):=by omega
    have hE:Hid (syms.take k=syms):=Aa (List.take_of_length_le (by rw[HYL.out];exact Af _));rw[hE.out]at hob;have hLo:Hid (l=Ei syms):=Aa (by rw[hll,hE.out]);have htx:=Ed ht hbx;have hbl:(Fm ns syms).length=n:=by have:=hob.1;simpa using this
    have hbwr:Below w.heap.size w wr:=HW.out.trans ((hbm.trans (hbx.mono hbms)).mono hbs);have hbws:=hbwr.size;have h9:=fun b hb=>(hob.lt b hb)
    have h7:=fun b hb=>(htx.lt b hb)
    obtain⟨p9,c9,rfl,_,_,_,_⟩:=Has.of_owns hob;obtain⟨p7,c7,rfl,_,_,_,_⟩:=Has.of_owns htx
    have hrs:Hid (res= [⟨szT (Gu a l) n,Gc,Fm ns syms⟩]++ [⟨szT Dc ((Cj ns).tb.length:Int),Gd,(Cj ns).tb⟩]):=Aa (by
     rw[HRES.out,hLo.out];unfold szP;rw[hbl]
     rfl)
    generalize htl:(Cj ns).tb.length=tl at*;have hpt:Bf wr (fun b=>w.heap.size≤b∧b < wr.heap.size) ([⟨szT (Gu a l) n,Gc,.slice p9 n c9⟩]++ [⟨szT Dc (tl:Int),Gd,.slice p7 tl c7⟩]) ([⟨szT (Gu a l) n,Gc,Fm ns syms⟩]++ [⟨szT Dc (tl:Int),Gd,(Cj ns).tb⟩]):=
     (Bf.one (SlB.of_owns hob fun b hb=>⟨by have:=(h9 b hb).1;omega,(h9 b hb).2⟩)).append (Bf.one (SlB.of_owns htx fun b hb=>⟨by have:=(h7 b hb).1;omega,(h7 b hb).2⟩))
    have HPT:=Aa hpt;have HN1:=Aa fun W=>Kz Gc (Gu a l) p9 n c9 W;have HN2:=Aa fun W=>Kz Gd Dc p7 tl c7 W;clear hll hn hE hpt h9 h7 hob htx hbl htl hbx;go_wp2_with fail
    refine(HN1.out _).mono ?_;rintro e wa ⟨rfl,hbba⟩;have hbas:=hbba.size;go_wp2_with fail
    refine(HN2.out _).mono ?_;rintro e wb ⟨rfl,hbbb⟩;have hbb9:Below wr.heap.size wr wb:=hbba.trans (hbbb.mono hbas);have hbb9s:=hbb9.size;have hbW:Below w.heap.size w wb:=hbwr.trans (hbb9.mono hbws);have hbWs:=hbW.size;clear hbba hbbb;go_wp2_with fail
    go_ret;rw[hrs.out];refine⟨.slice (some ⟨wb.heap.size,0,none⟩) 2 2, [⟨szT (Gu a l) n,Gc,.slice p9 n c9⟩]++ [⟨szT Dc (tl:Int),Gd,.slice p7 tl c7⟩],rfl,World.ownsRow_lit wb _ 2 hbWs (by unfold maxLen;omega) rfl,?_,hbW.alloc hbWs _⟩;refine Bf.weaken (K:=fun b=>w.heap.size≤b∧b < wr.heap.size) ((HPT.out.below hbb9).below ((Ag _ wb).alloc (Af _) _)) ?_;intro b _ h;refine⟨h.1,fun he=>?_⟩;have he:b=wb.heap.size:=Option.some.inj he;omega
def Sr:Value:= .agg #[.string ⟨#[]⟩,.int .i64 0,.int .i64 0,.int .i64 0,.int .i64 0,.int .i64 0,.int .i64 0,.int .i64 0,.int .i64 0,.int .i64 0,.int .i64 0,.slice none 0 0]
theorem Jhq:Sr.cells.size=12:=rfl
theorem Jj1(n:Nat)(w:World)(hn:n≤1000000):
 Calls Tryz.prog 175 #[.slice none 0 0,.int .i64 (n:Int)] w fun e w'=>∃v,e= .returned v∧w'.ownsRow w.heap.size 228 12 v 0 []∧Below w.heap.size w w':=by
 rcases Nat.eq_zero_or_pos n with rfl|h0
 ·go_enter Tryz.func175,Tryz.ntmps175;go_wp2_with fail
  go_ret;exact⟨_,rfl,Aq _ _ _ _,Ag _ _⟩
 ·obtain⟨i0,hi,hz0,hz1,hz2⟩:=info_parts Tryz.infoOwnPart;have hz0':i0.zero=some Sr:=hz0;have happ:=Lib.run_append_nil_zeros (P:=Tryz.prog) w 167 3 167 228 i0 Sr .i64 .i64 Tryz.underlying167 Tryz.underlying3 hi hz0' n h0 (by omega) (by omega) (by rw[hz2];omega);have hc1:n≤grownCap w n 0 228:=grownCap_ge w n 0 _;have hc2:grownCap w n 0 228≤maxLen:=grownCap_le_maxLen w n 0 _ (by unfold maxLen;omega);generalize grownCap w n 0 228=cap at*;have hzs:(Builtin.zeroCells Sr.cells n++Builtin.zeroCells Sr.cells (cap - n)).size=cap*12:=by
   rw[Array.size_append,size_zeroCells,size_zeroCells,Jhq];omega
  generalize (Builtin.zeroCells Sr.cells n++Builtin.zeroCells Sr.cells (cap - n))=Z at*;have HA:=Aa happ;have HZ:=Aa hzs;have hcp:¬cap=0:=by omega
  clear happ hi hz0 hz1 hz2 hzs hz0';go_enter Tryz.func175,Tryz.ntmps175;go_wp2_with (at_builtin;refine Lib.wpList_append_run _ rfl _ _ _ _ rfl _ _ rfl rfl _ _ HA.out ?_)
  go_wp2_with fail
  go_ret;refine⟨_,rfl,⟨by simp,.inr ⟨w.heap.size,cap,Z,rfl,Af _,?_,Ak _,hc2,HZ.out,by simp⟩⟩,?_⟩
  ·exact Ah w _
  ·exact((Ag _ w).alloc (Af _) _).drew
def Jov(w:World)(p:Option Addr)(ls:List (List PV)):Prop:=
 ∀i l,ls[i]?=some l→∃g o v b,p=some ⟨g,o,none⟩∧w.cell? ⟨g,o+i,none⟩=some v∧w.ownsRow b 228 12 v l.length (pvs false l)∧∀u∈pvs false l,u.oneCell'=true
theorem Xq{ls:List (List PV)}{k:Nat}{l:List PV}(h:ls[k]?=some l):(ls.take (k+1)).flatten=(ls.take k).flatten++l:=by
 rw[List.take_add_one,h];simp
theorem Jmd(ls:List (List PV))(k:Nat):(ls.take k).flatten.length≤ls.flatten.length:=by
 have e:ls.flatten=(ls.take k).flatten++(ls.drop k).flatten:=by rw[←List.flatten_append,List.take_append_drop]
 have:=congrArg List.length e;rw[List.length_append]at this;omega
theorem Wd(p:Option Addr)(m c:Nat)(ls:List (List PV))(w:World)(h:Jov w p ls)(hlen:ls.length=m)(hm:m≤1000000)(hsum:ls.flatten.length≤100000):
 Calls Tryz.prog 130 #[.slice p m c] w fun e w'=>∃v,e= .returned v∧w'.ownsRow w.heap.size 228 12 v ls.flatten.length (pvs false ls.flatten)∧Below w.heap.size w w':=by
 obtain⟨i0,hi,hz0,hz1,hz2⟩:=info_parts Tryz.infoOwnPart;have HI:=Aa hi;have H0:=Aa hz0;have H1:=Aa hz1;have H2:=Aa hz2;have HX:=Aa h;have HL:=Aa hlen;have HS:=Aa (fun k=>Jmd ls k);have HSUM:=Aa hsum;clear h hlen hi hz0 hz1 hz2 hsum;go_enter Tryz.func130,Tryz.ntmps130;go_wp2_with fail
 go_loop [3,5,11] (fun sz _ ii=>∃k q:Nat,k≤m∧q=(ls.take k).flatten.length∧ii= .int .i64 (k:Int)∧sz= .int .i64 (q:Int)) (fun _ _ ii=>m - (intOf ii).toNat)
 case atStart=>exact⟨0,0,Ak _,by simp,rfl,rfl⟩
 case round=>
  obtain⟨k,q,hk,hq,rfl,rfl⟩:=hrel;have HQ:=Aa hq;have hq1:q≤100000:=by have:=HS.out k;have:=HSUM.out;omega
  by_cases hlt:k < m
  ·obtain⟨l,hl⟩:∃l,ls[k]?=some l:=⟨_,Ae (by rw[HL.out];exact hlt)⟩
   obtain⟨g,o,v,b,rfl,hc,hown,_⟩:=HX.out k l hl;obtain⟨r,c',rfl,_,_,_⟩:=Bl hown;have ht:=Xq hl;have hq2:q+l.length=(ls.take (k+1)).flatten.length:=by rw[ht,List.length_append,←hq]
   have HQ2:=Aa hq2;have hq3:q+l.length≤100000:=by have:=HS.out (k+1);have:=HSUM.out;omega
   have hI:(k:Int) < (m:Int):=by omega
   have hI0:(0:Int)≤(k:Int):=by omega
   clear hq hq2 ht hl hown;generalize l.length=n at*;go_wp2_with fail
   go_round
   case rel=>exact⟨k+1,q+n,hlt,HQ2.out,by go_num,by go_num⟩
   case measure=>simp[intOf];omega
  ·have hkm:k=m:=by omega
   have HK:=Aa hkm;have hq0:¬(q:Int) < 0:=by omega
   clear hq hkm;have HG:=Aa fun W=>Jj1 q W (by omega);go_wp2_with fail
   refine(HG.out _).mono ?_;rintro e w1 ⟨v1,rfl,hown1,hb1⟩;clear HG HQ hq1 hq0 HK hk hlt;go_wp2_with fail
   go_loopw [6,8,27] (fun v _ ii wr=>∃k q:Nat,k≤m∧q=(ls.take k).flatten.length∧ii= .int .i64 (k:Int)∧wr.ownsRow w.heap.size 228 12 v q (pvs false (ls.take k).flatten)∧Below w.heap.size w wr) (fun _ _ ii _=>m - (intOf ii).toNat)
   case atStart=>exact⟨0,0,Ak _,by simp,rfl,hown1,hb1⟩
   case round=>
    obtain⟨k,q,hk,hq,rfl,hown,hb⟩:=hrel;have HQ:=Aa hq;have hq1:q≤100000:=by have:=HS.out k;have:=HSUM.out;omega
    clear hown1 hb1;by_cases hlt:k < m
    ·obtain⟨l,hl⟩:∃l,ls[k]?=some l:=⟨_,Ae (by rw[HL.out];exact hlt)⟩
     obtain⟨g,o,v,b,rfl,hc,howl,hone⟩:=HX.out k l hl;have ht:=Xq hl;have hq2:q+l.length=(ls.take (k+1)).flatten.length:=by rw[ht,List.length_append,←hq]
     have HQ2:=Aa hq2;have hq3:q+l.length≤100000:=by have:=HS.out (k+1);have:=HSUM.out;omega
     have hI:(k:Int) < (m:Int):=by omega
     have hI0:(0:Int)≤(k:Int):=by omega
     have hcl:=Ax hb hc;have howl2:=Bd howl hb;have HONE:=Aa hone;have hpp:pvs false (ls.take (k+1)).flatten=pvs false (ls.take k).flatten++pvs false l:=by rw[ht,Np]
     have HPP:=Aa hpp;clear hq hq2 ht hl hc howl hone hpp;generalize l.length=n at*;go_wp2_with (at_builtin;refine Jd _ rfl _ _ 167 rfl w.heap.size 228 i0 _ 12 120 Tryz.underlying167 HI.out H0.out H1.out H2.out rfl (by decide) _ q _ rfl hown _ n _ rfl _ howl2 HONE.out (by unfold maxLen;omega) (by omega) hb.size ?_)
     intro v2 w2 hown2 hgrow2 _;have hb2:Below w.heap.size w w2:=hb.grown hgrow2 hb.size (fun g hg=>(hown.lt g hg).1);rw[←HPP.out]at hown2;clear hgrow2 hown hb hcl howl2;go_wp2_with fail
     go_roundw
     case rel=>exact⟨k+1,q+n,hlt,HQ2.out,by go_num,hown2,hb2⟩
     case measure=>simp[intOf];omega
    ·obtain rfl:k=m:=by omega
     have ht:ls.take k=ls:=List.take_of_length_le (by rw[HL.out];exact Af _);rw[ht]at hown hq;have HO:=Aa hown;have HQ2:=Aa hq;clear ht hown hq;go_wp2_with fail
     go_ret;exact⟨_,rfl,by rw[←HQ2.out];exact HO.out,hb⟩
def Jos(a:Int)(t:Ten):Ten:=⟨t.a,t.b,t.c,t.d,t.e,t.f,a,t.h,t.i,t.j⟩
def Lg(a:Int)(p:PV):PV:=⟨Jos a p.h,p.name,p.v⟩
def Yq(a:Int)(p:Bk):Bk:=⟨Jos a p.h,p.name,p.b⟩
def Jr(a:Int)(k:Nat)(l:List PV):List PV:=(l.take k).map (Lg a)++l.drop k
theorem Jh4(a:Int)(l:List PV):Jr a 0 l=l:=by simp[Jr]
theorem Jjf(a:Int)(l:List PV):Jr a l.length l=l.map (Lg a):=by simp[Jr]
theorem Um(a:Int)(k:Nat)(l:List PV):(Jr a k l).length=l.length:=by simp[Jr];omega
theorem Jh2{a:Int}{k:Nat}{l:List PV}(h:k < l.length):(pvs false (Jr a k l)).set (k*12+7) (.int .i64 a)=pvs false (Jr a (k+1) l):=by
 have e1:Jr a k l=(l.take k).map (Lg a)++(l[k]::l.drop (k+1)):=by unfold Jr;rw[List.drop_eq_getElem_cons h]
 have e2:Jr a (k+1) l=(l.take k).map (Lg a)++(Lg a l[k]::l.drop (k+1)):=by
  unfold Jr;rw[List.take_add_one,Ae h,List.map_append];simp only[Option.toList,List.map_cons,List.map_nil,List.append_assoc,List.cons_append,List.nil_append]
 have hl:(pvs false ((l.take k).map (Lg a))).length=k*12:=by rw[Nb];simp;omega
 rw[e1,e2,Np,Np,List.set_append_right _ _ (by omega),hl,show k*12+7 - k*12=7 by omega];congr 1
theorem Jhl{w:World}{K:Nat→Prop}{pv:List PV}{pd:List Bk}(a:Int)(h:Bf w K pv pd):Bf w K (pv.map (Lg a)) (pd.map (Yq a)):=by
 refine⟨by simp[h.1],fun i x y hx hy=>?_⟩;rw[List.getElem?_map]at hx hy;obtain⟨x0,hx0,rfl⟩:=Option.map_eq_some_iff.1 hx;obtain⟨y0,hy0,rfl⟩:=Option.map_eq_some_iff.1 hy;obtain⟨h1,h2,h3⟩:=h.2 i x0 y0 hx0 hy0;exact⟨by unfold Lg Yq;rw[h1],h2,h3⟩
theorem Jmr(a:Int)(secs:List Ca)(k:Nat):((relPs 0 secs k).map szP).map (Yq a)=(relPs a secs k).map szP:=by
 unfold relPs;rw[List.map_flatMap,List.map_flatMap,List.map_flatMap];congr 1;funext i;unfold Iz Hx;split
 ·split<;>rfl
 ·rfl
theorem Jin(a:Int)(gs:List Cs)(sg:Bool)(sig:List Int):((groupPs 0 gs sg sig).map szP).map (Yq a)=(groupPs a gs sg sig).map szP:=by
 unfold groupPs;simp only[List.map_append,List.map_map];cases sg<;>rfl
def ownPs(o:Az):List Bk:=o.secs.map Eg++((relPs (Dv o) o.secs o.secs.length++groupPs (Dv o) o.groups o.hasSig o.sig).map szP++(symPs (Dv o) o.syms).map szP)
theorem Vn(w:World)(T:TypeId)(v1 v2 v3:Value)(l1 l2 l3:List PV)(b1 b2 b3:Nat)(h1:w.ownsRow b1 228 12 v1 l1.length (pvs false l1))(h2:w.ownsRow b2 228 12 v2 l2.length (pvs false l2))(h3:w.ownsRow b3 228 12 v3 l3.length (pvs false l3))
 (o1:∀u∈pvs false l1,u.oneCell'=true)(o2:∀u∈pvs false l2,u.oneCell'=true)(o3:∀u∈pvs false l3,u.oneCell'=true):
 Jov (w.alloc (.cells #[v1,v2,v3] T)) (some ⟨w.heap.size,0,none⟩) [l1,l2,l3]:=fun i l hl=>by
 have hn:=Dd w (.cells #[v1,v2,v3] T)
 match i,hl with
 |0,hl=>
  simp at hl;subst hl;exact⟨_,_,v1,b1,rfl,(Am _ w.heap.size 0 _ T (0,0) hn).trans rfl,h1.alloc _,o1⟩
 |1,hl=>
  simp at hl;subst hl;exact⟨_,_,v2,b2,rfl,(Am _ w.heap.size 1 _ T (0,0) hn).trans rfl,h2.alloc _,o2⟩
 |2,hl=>
  simp at hl;subst hl;exact⟨_,_,v3,b3,rfl,(Am _ w.heap.size 2 _ T (0,0) hn).trans rfl,h3.alloc _,o3⟩
theorem Wc{w4 wm w5:World}{lo N:Nat}{T:TypeId}{vO v1 v2 v3:Value}{l1 l2 l3:List PV}{d1 d2 d3 d:List Bk}(hd:d=d1++(d2++d3))(h1:Bf w4 (fun b=>lo≤b∧some b≠v1.ownBlock) l1 d1)(h2:Bf w4 (fun b=>lo≤b∧some b≠v2.ownBlock) l2 d2)(h3:Bf w4 (fun b=>lo≤b∧some b≠v3.ownBlock) l3 d3)
 (hb:Below w4.heap.size w4 wm)(hb5:Below wm.heap.size wm w5)(ho:w5.ownsRow wm.heap.size T 12 vO ([l1,l2,l3].flatten).length (pvs false [l1,l2,l3].flatten))(hN:N≤w4.heap.size):
 w5.ownsRow N T 12 vO d.length (pvs false [l1,l2,l3].flatten)∧Bf w5 (fun b=>lo≤b∧some b≠vO.ownBlock) [l1,l2,l3].flatten d:=by
 have hf: [l1,l2,l3].flatten=l1++(l2++l3):=by simp
 have hs:=hb.size;have hpt:Bf w4 (fun b=>lo≤b∧b < w4.heap.size) (l1++(l2++l3)) (d1++(d2++d3)):=(h1.weaken fun b hb h=>⟨h.1,hb⟩).append ((h2.weaken fun b hb h=>⟨h.1,hb⟩).append (h3.weaken fun b hb h=>⟨h.1,hb⟩));subst hd;rw[hf]at ho⊢;constructor
 ·rw[←hpt.1];exact Cm ho (by omega)
 ·refine((hpt.below hb).below hb5).weaken fun b _ h=>⟨h.1,fun e=>?_⟩
  have:=(ho.lt b e.symm).1;omega
theorem Jss{w:World}{base s n:Nat}{T:TypeId}{v v2:Value}{xs:List Value}(h:w.ownsRow base T s v n xs)(hlo:∀g,v2.ownBlock=some g→w.heap.size≤g):v.ownBlock=none∨v.ownBlock≠v2.ownBlock:=by
 cases hv:v.ownBlock with
 |none=>exact .inl rfl
 |some b=>
  refine .inr fun e=>?_;have h1:=(h.lt b hv).2;have h2:=hlo b e.symm;omega
theorem Jd2(o:Az)(v0 v1 v2 v4:Value)(w:World)(hp:Dn w v0 v1 v2 v4 o)(hl:Ho o):
 Calls Tryz.prog 79 #[Gq v0 v1 v2 o.hasSig v4] w (Hq 228 false 0 (ownPs o) w):=by
 have hb1:Below w.heap.size w (w.alloc (.cells #[v0,v1,v2,.bool o.hasSig,v4] 27)):=(Ag _ w).alloc (Af _) _;have hpW:=hp.below hb1;obtain⟨hq,hys,hgp,hsg⟩:=hpW;have hsgx:=hsg;obtain⟨p0,c0,rfl,_,_,_,hqh⟩:=hq;obtain⟨p1,c1,rfl,_,_,_,hyh⟩:=hys;obtain⟨p2,c2,rfl,_,_,_,hgh⟩:=hgp;have a0:(w.alloc (.cells #[.slice p0 o.secs.length c0,.slice p1 o.syms.length c1,.slice p2 o.groups.length c2,.bool o.hasSig,v4] 27)).cell? ⟨w.heap.size,0,none⟩=some (.slice p0 o.secs.length c0):=by simp
 have a1:(w.alloc (.cells #[.slice p0 o.secs.length c0,.slice p1 o.syms.length c1,.slice p2 o.groups.length c2,.bool o.hasSig,v4] 27)).cell? ⟨w.heap.size,1,none⟩=some (.slice p1 o.syms.length c1):=by simp
 have a2:(w.alloc (.cells #[.slice p0 o.secs.length c0,.slice p1 o.syms.length c1,.slice p2 o.groups.length c2,.bool o.hasSig,v4] 27)).cell? ⟨w.heap.size,2,none⟩=some (.slice p2 o.groups.length c2):=by simp
 have a3:(w.alloc (.cells #[.slice p0 o.secs.length c0,.slice p1 o.syms.length c1,.slice p2 o.groups.length c2,.bool o.hasSig,v4] 27)).cell? ⟨w.heap.size,3,none⟩=some (.bool o.hasSig):=by simp
 have a4:(w.alloc (.cells #[.slice p0 o.secs.length c0,.slice p1 o.syms.length c1,.slice p2 o.groups.length c2,.bool o.hasSig,v4] 27)).cell? ⟨w.heap.size,4,none⟩=some v4:=by simp
 have hbs1:=hb1.size;have hnsec:=hl.nsec;have hngrp:=hl.ngrp;have hnsym:=hl.nsym;generalize hW1:w.alloc (.cells #[.slice p0 o.secs.length c0,.slice p1 o.syms.length c1,.slice p2 o.groups.length c2,.bool o.hasSig,v4] 27)=W1 at*;have hgW:w.heap.size < W1.heap.size:=Ao W1 _ a0;have HSP:=Aa fun(W:World)(hW:Below W1.heap.size W1 W)=>Yx p0 c0 o.secs W (hqh.below Ev.keeps hW) hl.nsec;have HR:=Aa fun(W:World)(hW:Below W1.heap.size W1 W)=>Yf p0 c0 o.secs W (hqh.below Ev.keeps hW) hl.nsec (fun s hs=>⟨(hl.secs s hs).2.2.2.2.2.2.2.2.1,(hl.secs s hs).2.2.2.2.2.2.2.2.2.2⟩);have HG:=Aa fun(W:World)(hW:Below W1.heap.size W1 W)=>Vl p2 c2 o.groups W (hgh.below Ew.keeps hW) hl.ngrp (fun g hg=>(hl.grps g hg).2.1);have HX:=Aa fun(W:World)(hW:Below W1.heap.size W1 W)=>Zc (.slice p0 o.secs.length c0) (.slice p1 o.syms.length c1) (.slice p2 o.groups.length c2) v4 o.hasSig o.sig W (hsgx.below Cc.keeps hW) (by have:=hl.nsig;omega) hl.sigs;have HY:=Aa fun(a:Int)(ha:0≤a∧a≤1000)(W:World)(hW:Below W1.heap.size W1 W)=>Yy p1 c1 o.syms a W ha (hyh.below Ie.keeps hW) hl.nsym hl.syms;have HSN:=Aa (Kn hl);have HB1:=Aa hb1;have hop:ownPs o=o.secs.map Eg++((relPs (Dv o) o.secs o.secs.length++groupPs (Dv o) o.groups o.hasSig o.sig).map szP++(symPs (Dv o) o.syms).map szP):=rfl;have hsn:Dv o=1+o.secs.length+(relPs 0 o.secs o.secs.length).length+(groupPs 0 o.groups o.hasSig o.sig).length:=rfl;have hod:(relPs 0 o.secs o.secs.length++groupPs 0 o.groups o.hasSig o.sig).map szP=(relPs 0 o.secs o.secs.length).map szP++((o.groups.map (Dq 0)).map szP++(bif o.hasSig then [Jv 0 o.sig]else []).map szP):=by unfold groupPs;rw[List.map_append,List.map_append]
 have HOP:=Aa hop;have HSNO:=Aa hsn;have HOD:=Aa hod;clear hp hl hb1 hqh hyh hgh hsg hsgx hop hsn hod;generalize hql:o.secs.length=ql at*;generalize hyl:o.syms.length=yl at*;generalize hgl:o.groups.length=gl at*;generalize o.hasSig=sg at*;have HQL:=Aa hql;have HGL:=Aa hgl;clear hql hyl hgl;go_enter Tryz.func79,Tryz.ntmps79;go_upto_region 1 with fail
 clear hW1;go_wp2_with fail
 refine(HSP.out _ (Ag _ _)).mono ?_;rintro e wa ⟨vS,pvS,rfl,hownS,hpaS,hbA⟩;have hbAs:=hbA.size;have z0:=Ax hbA a0;have z1:=Ax hbA a1;have z2:=Ax hbA a2;have z3:=Ax hbA a3;have z4:=Ax hbA a4;have HPS:=Aa hpaS;clear hpaS a0 a1 a2 a3 a4 HSP;have hocS:=HPS.out.oneCell (q:=false);have HOCS:=Aa hocS;have hsl:(o.secs.map Eg).length=ql:=by rw[List.length_map,HQL.out]
 rw[hsl]at hownS;clear hocS;have hnr:(relPs 0 o.secs ql).length≤ql:=Qw _ _ _;have hng:=Rk 0 o.groups sg o.sig;have hgl2:o.groups.length≤40:=by have:=HGL.out;omega
 go_upto_region 2 with fail
 go_cut [4] (fun s4 wx=>∃(pvO:List PV),wx.ownsRow wa.heap.size 228 12 s4 ((relPs 0 o.secs ql++groupPs 0 o.groups sg o.sig).map szP).length (pvs false pvO)∧Bf wx (fun b=>wa.heap.size≤b∧some b≠s4.ownBlock) pvO ((relPs 0 o.secs ql++groupPs 0 o.groups sg o.sig).map szP)∧Below wa.heap.size wa wx)
 case first=>
  clear HY HOP HSNO;go_region_held3 (fun W=>W.cell? ⟨w.heap.size,0,none⟩=some (.slice p0 ql c0)∧W.cell? ⟨w.heap.size,1,none⟩=some (.slice p1 yl c1)∧W.cell? ⟨w.heap.size,2,none⟩=some (.slice p2 gl c2)∧W.cell? ⟨w.heap.size,3,none⟩=some (.bool sg)∧W.cell? ⟨w.heap.size,4,none⟩=some v4) (first|go_keep|exact⟨z0,z1,z2,z3,z4⟩|exact⟨e0,e1,e2,e3,e4⟩|exact⟨g0,g1,g2,g3,g4⟩|exact⟨k0,k1,k2,k3,k4⟩|exact⟨m0,m1,m2,m3,m4⟩|exact⟨q0,q1,q2,q3,q4⟩|fail)
   ((first
     |(go_at_call 131
       refine(HR.out _ (by exact hbA.drew)).mono ?_;rintro e w2 ⟨vR,pvR,rfl,hownR,hpaR,hbb2⟩;rw[List.length_map]at hownR;obtain⟨pR,cR,rfl,_,_,_⟩:=Bl hownR;have e0:w2.cell? ⟨w.heap.size,0,none⟩=some (.slice p0 ql c0):=Ax hbb2 z0;have e1:w2.cell? ⟨w.heap.size,1,none⟩=some (.slice p1 yl c1):=Ax hbb2 z1;have e2:w2.cell? ⟨w.heap.size,2,none⟩=some (.slice p2 gl c2):=Ax hbb2 z2;have e3:w2.cell? ⟨w.heap.size,3,none⟩=some (.bool sg):=Ax hbb2 z3;have e4:w2.cell? ⟨w.heap.size,4,none⟩=some v4:=Ax hbb2 z4;have hb2:Below W1.heap.size W1 w2:=hbA.drew.trans (hbb2.mono (by exact hbAs));have hbl2:Below wa.heap.size wa w2:=(Ag _ wa).drew.trans hbb2;have hownR':w2.ownsRow wa.heap.size 228 12 (.slice pR (relPs 0 o.secs ql).length cR) (relPs 0 o.secs ql).length (pvs false pvR):=hownR;have HPR:Hid (Bf w2 (fun b=>wa.heap.size≤b∧some b≠(Value.slice pR (relPs 0 o.secs ql).length cR).ownBlock) pvR ((relPs 0 o.secs ql).map szP)):=Aa hpaR
       clear hownR hpaR hbb2)
     |(go_at_call 132
       refine(HG.out _ (by exact hb2)).mono ?_;rintro e w3 ⟨vG,pvG,rfl,hownG,hpaG,hbb3⟩;rw[List.length_map,List.length_map]at hownG;obtain⟨pG,cG,rfl,_,_,_⟩:=Bl hownG;have g0:w3.cell? ⟨w.heap.size,0,none⟩=some (.slice p0 ql c0):=Ax hbb3 e0;have g1:w3.cell? ⟨w.heap.size,1,none⟩=some (.slice p1 yl c1):=Ax hbb3 e1;have g2:w3.cell? ⟨w.heap.size,2,none⟩=some (.slice p2 gl c2):=Ax hbb3 e2;have g3:w3.cell? ⟨w.heap.size,3,none⟩=some (.bool sg):=Ax hbb3 e3;have g4:w3.cell? ⟨w.heap.size,4,none⟩=some v4:=Ax hbb3 e4;have hb3:Below W1.heap.size W1 w3:=hb2.trans (hbb3.mono hb2.size);have hbl3:Below wa.heap.size wa w3:=hbl2.trans (hbb3.mono hbl2.size);have hownR3:=Bd hownR' hbb3;have HPR3:=Aa (HPR.out.below hbb3);have HPG:=Aa hpaG;have hl2:=hbl2.size
       clear hpaG hbb3 hownR' HPR)
     |(go_at_call 133
       refine(HX.out _ (by exact hb3)).mono ?_;rintro e w4 ⟨vX,pvX,rfl,hownX,hpaX,hbb4⟩;rw[List.length_map]at hownX;obtain⟨pX,cX,rfl,_,_,_⟩:=Bl hownX;have k0:w4.cell? ⟨w.heap.size,0,none⟩=some (.slice p0 ql c0):=Ax hbb4 g0;have k1:w4.cell? ⟨w.heap.size,1,none⟩=some (.slice p1 yl c1):=Ax hbb4 g1;have k2:w4.cell? ⟨w.heap.size,2,none⟩=some (.slice p2 gl c2):=Ax hbb4 g2;have k3:w4.cell? ⟨w.heap.size,3,none⟩=some (.bool sg):=Ax hbb4 g3;have k4:w4.cell? ⟨w.heap.size,4,none⟩=some v4:=Ax hbb4 g4;have hl3:=hbl3.size;have hbl4:Below wa.heap.size wa w4:=hbl3.trans (hbb4.mono hl3);have hl4:=hbl4.size;have hownR4:=Bd hownR3 hbb4;have hownG4:=Bd hownG hbb4;have HPR4:=Aa (HPR3.out.below hbb4);have HPG4:=Aa (HPG.out.below hbb4);have HPX:=Aa hpaX;have hbm:Below w4.heap.size w4 (w4.alloc (.cells #[(.slice pR (relPs 0 o.secs ql).length cR),(.slice pG o.groups.length cG),(.slice pX (bif sg then [Jv 0 o.sig]else []).length cX)] 167)):=(Ag _ w4).alloc (Af _) _;have m0:=Ax hbm k0;have m1:=Ax hbm k1;have m2:=Ax hbm k2;have m3:=Ax hbm k3;have m4:=Ax hbm k4
       clear hpaX hbb4 hownR3 hownG HPR3 HPG)
     |(go_at_call 130
       refine(Wd (some ⟨w4.heap.size,0,none⟩) 3 3 [pvR,pvG,pvX] _ (Vn w4 167 _ _ _ pvR pvG pvX _ _ _ (by rw[HPR4.out.1,List.length_map];exact hownR4) (by rw[HPG4.out.1,List.length_map,List.length_map];exact hownG4) (by rw[HPX.out.1,List.length_map];exact hownX) (HPR4.out.oneCell (q:=false)) (HPG4.out.oneCell (q:=false)) (HPX.out.oneCell (q:=false))) rfl (by omega) (by
        have f1:=HPR4.out.1;have f2:=HPG4.out.1;have f3:=HPX.out.1;rw[List.length_map]at f1 f2 f3;rw[List.length_map]at f2;have f4:(bif sg then [Jv 0 o.sig]else []).length≤1:=by cases sg<;>simp
        simp only[List.flatten_cons,List.flatten_nil,List.length_append,List.length_nil]
        omega)).mono ?_
       rintro e w5 ⟨vO,rfl,hownO,hbb5⟩;have q0:=Ax hbb5 m0;have q1:=Ax hbb5 m1;have q2:=Ax hbb5 m2;have q3:=Ax hbb5 m3;have q4:=Ax hbb5 m4;have HF:=Aa (Wc HOD.out (HPR4.out.weaken fun b _ h=>h) (HPG4.out.weaken fun b _ h=>⟨by omega,h.2⟩) (HPX.out.weaken fun b _ h=>⟨by omega,h.2⟩) hbm hbb5 hownO hl4)
       have hbl5:Below wa.heap.size wa w5:=hbl4.trans ((hbm.trans (hbb5.mono hbm.size)).mono hl4))
     |fail))
  go_wp2_with fail
  go_meet;exact⟨_,HF.out.1,HF.out.2,hbl5⟩
 case rest=>
  obtain⟨pvO,hownO,hpaO,hbO⟩:=hcut;have hodl:((relPs 0 o.secs ql++groupPs 0 o.groups sg o.sig).map szP).length=(relPs 0 o.secs ql).length+(groupPs 0 o.groups sg o.sig).length:=by rw[List.length_map,List.length_append]
  have hlk:((relPs 0 o.secs ql++groupPs 0 o.groups sg o.sig).map szP).map (Yq (Dv o:Int))=(relPs (Dv o) o.secs ql++groupPs (Dv o) o.groups sg o.sig).map szP:=by
   rw[List.map_append,List.map_append,Jmr,Jin,←List.map_append]
  have hsno:=HSNO.out;have hsle:=HSN.out;have HLK:=Aa hlk;have hpl:=hpaO.1;clear hlk HR HG HX HOD;generalize (relPs 0 o.secs ql++groupPs 0 o.groups sg o.sig).map szP=od at*;generalize (relPs (Dv o) o.secs ql++groupPs (Dv o) o.groups sg o.sig).map szP=od2 at*;generalize (relPs 0 o.secs ql).length=n1 at*;generalize (groupPs 0 o.groups sg o.sig).length=n2 at*;generalize wc=wb at*;generalize hsa:Dv o=sa at*;generalize hnn:od.length=n at*;have hsa2:sa=1+ql+n:=by omega
  have HSA:=Aa hsa2;have hn9:n≤122:=by omega
  have HPL:=Aa hpl;have HPO:=Aa hpaO;have hownS2:=Bd hownS hbO;have hownS9:=hownS;have HPS9:=Aa HPS.out;have HPS2:=Aa (HPS.out.below hbO);obtain⟨pS,cS,rfl,_,_,_⟩:=Bl hownS;obtain⟨pO,cO,rfl,_,_,_⟩:=Bl hownO;have kk1:IntKind.i64.wrap (1+(ql:Int))=1+(ql:Int):=Al _ (by omega);have kk2:IntKind.i64.wrap (1+(ql:Int)+(n:Int))=(sa:Int):=by rw[show 1+(ql:Int)+(n:Int)=(sa:Int) by omega];exact Al _ (by omega)
  have HNN:=Aa hnn;clear hodl hsno hsa hsa2 hnn hpl hownS hpaO HPS HSNO;go_wp2_with fail
  go_loopw [6,28] (fun r6 r28 wr=>∃(k:Nat),k≤n∧r28= .int .i64 (k:Int)∧wr.ownsRow wa.heap.size 228 12 (.slice pO n cO) n (pvs false (Jr sa k pvO))∧wb.grownBy wr (Value.slice pO n cO).ownBlock) (fun _ r28 _=>n - (intOf r28).toNat)
  case atStart=>exact⟨0,Ak _,rfl,by rw[Jh4];exact hownO,World.grownBy.refl _ _⟩
  case round=>
   obtain⟨k,hk,rfl,hown,hgr⟩:=hrel;by_cases hlt:k < n
   ·have hfr:=hown.2;rcases hfr with⟨_,h0⟩|⟨g,cap,cur,he,_,_,_,_,_,_⟩
    ·omega
    simp only[Value.slice.injEq]at he;obtain⟨rfl,_,rfl⟩:=he;have hkl:k < pvO.length:=by have:=HPL.out;omega
    have hcx:=hown.cellAt (k*12+7) (by omega);have hst:=hown.stored (k*12+7) (.int .i64 (sa:Int));rw[Jh2 hkl]at hst;have hcx2:wr.cell? ⟨g,k*12+7,none⟩=some ((pvs false (Jr sa k pvO))[k*12+7]'(by rw[Nb,Um];omega)):=by rw[hcx];exact Ae _
    generalize (pvs false (Jr sa k pvO))[k*12+7]'(by rw[Nb,Um];omega)=u0 at hcx2;have hf:=hown.frozenAt (k*12+7);have HST:=Aa hst.1;have HGR:Hid (wb.grownBy (wr.setCell ⟨g,k*12+7,none⟩ (.int .i64 (sa:Int))) (some g)):=Aa (hgr.trans hst.2);have hJ:(k:Int) < (n:Int):=by omega
    have k2:(0:Int)≤(k:Int):=by omega
    clear hcx hst hown hgr;go_wp2_with fail
    go_roundw
    case rel=>exact⟨k+1,hlt,by go_num,HST.out,HGR.out⟩
    case measure=>simp[intOf];omega
   ·obtain rfl:k=n:=by omega
    have hlkl:Jr sa k pvO=pvO.map (Lg sa):=by rw[show k=pvO.length from HPL.out.symm,Jjf]
    rw[hlkl]at hown;have hlo:=fun g hg=>(hownO.lt g hg).1;have hbR:Below wa.heap.size wa wr:=hbO.grown hgr hbO.size hlo
    have HPO3:Hid (Bf wr (fun b=>wa.heap.size≤b∧some b≠(Value.slice pO k cO).ownBlock) (pvO.map (Lg sa)) od2):=Aa (by
     have h1:=Jhl (sa:Int) (HPO.out.grown hgr (.inl rfl));rw[HLK.out]at h1
     exact h1)
    have hbS:Below wa.heap.size wa wr:=hbR;have hownS3:wr.ownsRow W1.heap.size 228 12 (.slice pS ql cS) ql (pvs false pvS):=hownS2.kept hgr (Jss hownS9 hlo);have HPS3:=Aa (HPS9.out.below hbR);have y1:=Ax hbR z1;have hbW:Below W1.heap.size W1 wr:=hbA.trans (hbR.mono hbAs);have hbWs:=hbW.size;have hbRs:=hbR.size;have HYY:=Aa (HY.out (sa:Int) ⟨by omega,by omega⟩);have hJ:¬(k:Int) < (k:Int):=by omega
    have hsy:((symPs (sa:Int) o.syms).map szP).length=2:=rfl;have HSY:=Aa hsy;clear hlkl hgr hbO hownO HPO hownS2 HPS2 hlo z0 z1 z2 z3 z4 hsy;go_wp2_with fail
    refine(HYY.out _ hbW).mono ?_;rintro e wy ⟨vY,pvY,rfl,hownY,hpaY,hbY⟩;rw[HSY.out]at hownY;obtain⟨pY,cY,rfl,_,_,_⟩:=Bl hownY;have hownS4:=Bd hownS3 hbY;have hownO4:=Bd hown hbY;have HPS4:=Aa (HPS3.out.below hbY);have HPO4:=Aa (HPO3.out.below hbY);have HPY:=Aa hpaY;have hsl3:pvS.length=ql:=by rw[HPS4.out.1,List.length_map];exact HQL.out
    have hsl4:(pvO.map (Lg sa)).length=k:=by rw[List.length_map];exact HPL.out
    have hsl5:pvY.length=2:=by rw[HPY.out.1];exact HSY.out
    have hps3:=Vn wy 167 (.slice pS ql cS) (.slice pO k cO) (.slice pY 2 cY) pvS (pvO.map (Lg sa)) pvY _ _ _ (by rw[hsl3];exact hownS4) (by rw[hsl4];exact hownO4) (by rw[hsl5];exact hownY) (HPS4.out.oneCell (q:=false)) (HPO4.out.oneCell (q:=false)) (HPY.out.oneCell (q:=false));have hflen:([pvS,pvO.map (Lg sa),pvY].flatten).length≤100000:=by
     simp only[List.flatten_cons,List.flatten_nil,List.length_append,List.length_nil];omega
    have HCC:=Aa (Wd (some ⟨wy.heap.size,0,none⟩) 3 3 [pvS,pvO.map (Lg sa),pvY] _ hps3 rfl (by omega) hflen);have hbY2:Below W1.heap.size W1 wy:=hbW.trans (hbY.mono hbWs);have hbm:Below wy.heap.size wy (wy.alloc (.cells #[(.slice pS ql cS),(.slice pO k cO),(.slice pY 2 cY)] 167)):=(Ag _ wy).alloc (Af _) _;have HBM:=Aa hbm;clear hownS3 hown hownY hownS4 hownO4 HPS3 HPO3 hpaY hbY hps3 hflen hsl3 hsl4 hsl5 hbm y1 hbR hbS;go_wp2_with fail
    refine HCC.out.mono ?_;rintro e w5 ⟨vF,rfl,hownF,hbF⟩;have hf:=Wc (lo:=0) (d:=ownPs o) (N:=W1.heap.size) (by rw[HOP.out]) HPS4.out (HPO4.out.weaken fun b _ h=>⟨by omega,h.2⟩) (HPY.out.weaken fun b _ h=>⟨by omega,h.2⟩) HBM.out hbF hownF (by have:=hbY2.size;omega);have HF:=Aa hf;have hbFin:Below w.heap.size w w5:=HB1.out.trans ((hbY2.trans ((HBM.out.trans (hbF.mono HBM.out.size)).mono hbY2.size)).mono hbs1);clear hownF hbF hf hbY2;go_wp2_with fail
    go_ret;exact⟨vF,_,rfl,Cm HF.out.1 (by omega),HF.out.2,hbFin⟩
end Go.Proofs.YteopgmieindojaaGreat
