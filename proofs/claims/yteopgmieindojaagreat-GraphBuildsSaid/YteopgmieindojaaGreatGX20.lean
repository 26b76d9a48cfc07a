/- Parts of a proof. -/
import Derived.Test.YteopgmieindojaaGreatGX19
set_option maxRecDepth 1000000
set_option maxHeartbeats 8000000
namespace Go.Proofs.YteopgmieindojaaGreat
open Go.RowKit
theorem Jlw(p q1 q2 ps:Option Addr)(c m1 d1 m2 d2 cs i k:Nat)(l:List Az)(D:List (List Bool))(o:Az)(s:Ca)(x:PcD)(w:World)(h:Bg 5 Cg w p l)(hok:∀o∈l,OkD o)(hsg:Gi l)(hlc:l.length≤1000)(hS:Bg 1 Gj w ps (Iy l D))(hi:l[i]?=some o)(hk:o.secs[k]?=some s)(hx:x∈piecesOf s)
 (hED:∀W,Below w.heap.size w W→∀pr cr,Bg 4 Hk W pr s.rels→Calls Tryz.prog 164 #[.agg #[.slice p l.length c,.slice q1 m1 d1,.slice q2 m2 d2,.slice ps l.length cs],.int .i64 (i:Int),.slice pr s.rels.length cr] W (Jjp (Da l D (i,k,s)) (Bw (De l D (i,k,s))) W)):
 Calls Tryz.prog 115 #[.agg #[.slice p l.length c,.slice q1 m1 d1,.slice q2 m2 d2,.slice ps l.length cs],.int .i64 (i:Int),.int .i64 ((k:Int)+1),.agg #[.int .i64 x.at_,.int .i64 x.size]] w (Jg6 (mkN l D (i,k,s) x) (Bw (De l D (i,k,s))) w):=by
 obtain⟨hB,hP,hZ,hw0⟩:=Tz w (.cells #[.slice p l.length c,.slice q1 m1 d1,.slice q2 m2 d2,.slice ps l.length cs] 154) (.cells #[.int .i64 x.at_,.int .i64 x.size] 213) (.cells nodeZ.toArray 86);have hil:i < l.length:=(Ab.1 hi).1;have hkl:k < o.secs.length:=(Ab.1 hk).1;have hoo:=hok o (Ad hi);have hql:=hoo.few.1;have hsG:=hsg o (Ad hi) s (Ad hk);obtain⟨row,hrow,hrk,hrl⟩:=Jcj (D:=D) hi hk;have HH:=Aa fun W (hW:Below w.heap.size w W)=>h.below Cg.keeps hW;have HS:=Aa fun W (hW:Below w.heap.size w W)=>hS.below Gj.keeps hW;have HED:=Aa hED;have HSG:=Aa hsG;have HX:=Aa hx;have HI:=Aa hi;have HK:=Aa hk;have HOK:=Aa hok;have HNBD:=Aa (Jqt (D:=D) hsg hok hlc (Jox h) hi hk hx);have HEBD:=Aa (Jck (D:=D) h hsg hok hlc hi hk);have HKL:(Iy l D).length=l.length:=Qx l D;obtain⟨code,hcode⟩:∃code,code=Bw (De l D (i,k,s)):=⟨_,rfl⟩
 obtain⟨es,hes⟩:∃es,es=Da l D (i,k,s):=⟨_,rfl⟩
 rw[←hcode,←hes]at HED;rw[←hcode];have HES:=Aa hes;obtain⟨res,hres⟩:∃res,res=mkN l D (i,k,s) x:=⟨_,rfl⟩
 rw[←hres];have HRES:=Aa hres;generalize hln:l.length=ln at*;have HLN:=Aa hln;obtain⟨gb,hgb⟩:∃gb,gb=w.heap.size:=⟨_,rfl⟩
 have HGB:=Aa hgb;rw[←hgb]at hB hP hZ hw0;have HB:=Aa hB;have HP:=Aa hP;have HZ:=Aa hZ;have HW0:=Aa hw0;have HROW:=Aa hrow;have HRK:=Aa hrk;have HRL:=Aa hrl;have HKN:=Aa HKL;clear h hok hsg hS hED hx hi hk hsG hcode hes hres hln hgb hB hP hZ hw0 hrow hrk hrl HKL hoo;go_enter Tryz.func115,Tryz.ntmps115;go_upto_region 1 with fail
 generalize (((w.alloc (.cells #[.slice p ln c,.slice q1 m1 d1,.slice q2 m2 d2,.slice ps ln cs] 154)).alloc (.cells #[.int .i64 x.at_,.int .i64 x.size] 213)).alloc (.cells nodeZ.toArray 86))=w3 at*;rw[←HGB.out];obtain⟨b,off,p0,p1,p2,p4,c0,c1,c2,c4,hpe,e0,_,_,e3,_,hsec,_⟩:=Du (HH.out w3 (by rw[←HGB.out];exact HW0.out)) HI.out;subst hpe;obtain⟨b2,off2,p7,p8,c7,c8,hpe2,f0,f1,f2,f3,f4,f5,f6,f7,f8,hd7,hd8,hbd⟩:=Rz hsec HK.out;subst hpe2;obtain⟨g,og,row',hpe,hrow',v,hcv,pr,cr,rfl,_,_,_,hr⟩:=(HS.out w3 (by rw[←HGB.out];exact HW0.out)).at_ (i:=i) (by rw[HKN.out];exact hil);obtain rfl:row'=row:=by rw[HROW.out]at hrow';cases hrow';rfl
 subst hpe;rw[Nat.mul_one]at hcv;obtain⟨g2,o2,x',hpe2,hx',⟨v2,hc0,pp,cp,rfl,hpc1,hpc2,hpc3,hpl⟩,hc1,hc2,hc3⟩:=hr.at_ (i:=k) (by rw[HRL.out];exact hkl);obtain rfl:x'=Iu l D i k s:=by rw[HRK.out]at hx';cases hx';rfl
 subst hpe2;obtain⟨y0,y1,y2,y3⟩:=Cp _ _ _ _ _ _ _ HB.out;replace hc2:w3.cell? ⟨g2,o2+k*4+2,none⟩=some (.int .i64 (Gm l i ((k:Int)+1))):=hc2;replace hc3:w3.cell? ⟨g2,o2+k*4+3,none⟩=some (.bool (Lm l D i ((k:Int)+1))):=hc3;obtain⟨G,hG⟩:∃G,G=Gm l i ((k:Int)+1):=⟨_,rfl⟩
 obtain⟨nm,hnm⟩:∃nm,nm=Lm l D i ((k:Int)+1):=⟨_,rfl⟩
 obtain⟨fst,hfst⟩:∃fst,fst=(Iu l D i k s).first:=⟨_,rfl⟩
 obtain⟨pn,hpn⟩:∃pn,pn=(Iu l D i k s).pcs.length:=⟨_,rfl⟩
 obtain⟨hs_,hhs⟩:∃hs_,hs_=o.hasSig:=⟨_,rfl⟩
 obtain⟨ql,hqn⟩:∃ql,ql=o.secs.length:=⟨_,rfl⟩
 have HG:=Aa hG;have HNM:=Aa hnm;have HHS:=Aa hhs;have hrl2:=HRL.out;rw[←hG]at hc2;rw[←hnm]at hc3;rw[←hfst]at hc1;rw[←hpn]at hc0;rw[←hhs]at e3;rw[←hqn]at hrl2 e0 hql hkl;rw[hrl2]at hcv;have HD7:=Aa hd7;have HD8:=Aa hd8;have HBD:=Aa hbd;obtain⟨dl,hdl⟩:∃dl,dl=s.data.length:=⟨_,rfl⟩
 obtain⟨rl,hrln⟩:∃rl,rl=s.rels.length:=⟨_,rfl⟩
 have HDL:=Aa hdl;have HRLN:=Aa hrln;rw[←hdl]at f7;rw[←hrln]at f8;have j1:(i:Int) < (ln:Int):=by omega
 have j0:(0:Int)≤(i:Int):=by omega
 have j2:IntKind.i64.wrap ((k:Int)+1 - 1)=(k:Int):=by rw[show(k:Int)+1 - 1=(k:Int) by omega];exact Al _ (by omega)
 have j6:IntKind.i64.wrap (k:Int)=(k:Int):=Al _ (by omega);have j3:(k:Int) < (ql:Int):=by omega
 have j4:(0:Int)≤(k:Int):=by omega
 have j7:¬(ql:Int)≤(k:Int):=by omega
 have j8:¬(k:Int) < 0:=by omega
 have hgs:gb+1+1 < w3.heap.size:=(Ac.1 HZ.out).1;clear hG hnm hfst hpn hhs hqn hrl2 hd7 hd8 hbd hdl hrln hr hx' hrow' hpc1 hpc2 hpc3 hpl hsec;go_cut [10,11] (fun s10 s11 wx=>∃g10 g11,s10= .pointer (some ⟨g10,0,none⟩)∧s11= .pointer (some ⟨g11,0,none⟩)∧wx.heap[g10]?=some (.cells #[.string s.name,.int .i64 s.type,.int .i64 s.flags,.int .i64 s.align,.int .i64 s.ent,.int .i64 s.link,.int .i64 s.size,.slice p7 dl c7,.slice p8 rl c8] 89 (0,0))∧wx.heap[g11]?=some (.cells #[.slice pp pn cp,.int .i64 fst,.int .i64 G,.bool nm] 211 (0,0))∧Below w3.heap.size w3 wx)
 case first=>
  go_region_held (fun W=>W.cell? ⟨gb,0,none⟩=some (.slice (some ⟨b,off,none⟩) ln c)∧W.cell? ⟨gb,3,none⟩=some (.slice (some ⟨g,og,none⟩) ln cs)∧W.cell? ⟨b,off+i*5,none⟩=some (.slice (some ⟨b2,off2,none⟩) ql c0)∧W.cell? ⟨b2,off2+k*9,none⟩=some (.string s.name)∧W.cell? ⟨b2,off2+k*9+1,none⟩=some (.int .i64 s.type)∧W.cell? ⟨b2,off2+k*9+2,none⟩=some (.int .i64 s.flags)∧W.cell? ⟨b2,off2+k*9+3,none⟩=some (.int .i64 s.align)∧W.cell? ⟨b2,off2+k*9+4,none⟩=some (.int .i64 s.ent)∧W.cell? ⟨b2,off2+k*9+5,none⟩=some (.int .i64 s.link)∧W.cell? ⟨b2,off2+k*9+6,none⟩=some (.int .i64 s.size)∧W.cell? ⟨b2,off2+k*9+7,none⟩=some (.slice p7 dl c7)∧W.cell? ⟨b2,off2+k*9+8,none⟩=some (.slice p8 rl c8)∧W.cell? ⟨g,og+i,none⟩=some (.slice (some ⟨g2,o2,none⟩) ql cr)∧W.cell? ⟨g2,o2+k*4,none⟩=some (.slice pp pn cp)∧W.cell? ⟨g2,o2+k*4+1,none⟩=some (.int .i64 fst)∧W.cell? ⟨g2,o2+k*4+2,none⟩=some (.int .i64 G)∧W.cell? ⟨g2,o2+k*4+3,none⟩=some (.bool nm)) (first|exact⟨y0,y3,e0,f0,f1,f2,f3,f4,f5,f6,f7,f8,hcv,hc0,hc1,hc2,hc3⟩|go_keep|fail) (fail)
  all_goals go_wp2_with fail
  all_goals go_meet
  all_goals first
   |exact⟨_,_,rfl,rfl,(Ec w3 _ _).1,(Ec w3 _ _).2.1,(Ec w3 _ _).2.2⟩
   |exact⟨_,_,rfl,rfl,(Ec w3 _ _).2.1,(Ec w3 _ _).1,(Ec w3 _ _).2.2⟩
 case rest=>
  obtain⟨g10,g11,rfl,rfl,h10,h11,hb4⟩:=hcut;have hB4:=(hb4.block gb (by omega)).trans HB.out;have hP4:=(hb4.block (gb+1) (by omega)).trans HP.out;have hZ4:=(hb4.block (gb+1+1) (by omega)).trans HZ.out;have e34:=Ax hb4 e3;have HB34:=Aa hb4;have hbw4:Below gb w wc:=HW0.out.trans (hb4.mono (by omega));have hed:=HED.out wc (by rw[←HGB.out];exact hbw4) p8 c8 (HD8.out.1.below Hk.keeps hb4);have hc4:∀j v,(#[.string s.name,.int .i64 s.type,.int .i64 s.flags,.int .i64 s.align,.int .i64 s.ent,.int .i64 s.link,.int .i64 s.size,.slice p7 dl c7,.slice p8 rl c8]:Array Value)[j]?=some v→wc.cell? ⟨g10,j,none⟩=some v:=fun j v hv=>(Am wc g10 j _ _ (0,0) h10).trans hv;have t8:=hc4 8 _ rfl;clear y0 y1 y2 y3 e0 e3 f0 f1 f2 f3 f4 f5 f6 f7 f8 hcv hc0 hc1 hc2 hc3 hc4;obtain⟨y0,y1,y2,y3⟩:=Cp _ _ _ _ _ _ _ hB4;rw[←HRLN.out]at hed;have hgB4:gb < wc.heap.size:=(Ac.1 hB4).1;have HB4:=Aa hB4;have HP4:=Aa hP4;have HZ4:=Aa hZ4;have HBW4:=Aa hbw4;have H10:=Aa h10;have H11:=Aa h11;clear hB4 hP4 hZ4 hbw4 h10 h11 hb4;by_cases hc:code=0
  ·subst hc
   have HEX:Hid (Calls Tryz.prog 164 #[.agg #[.slice (some ⟨b,off,none⟩) ln c,.slice q1 m1 d1,.slice q2 m2 d2,.slice (some ⟨g,og,none⟩) ln cs],.int .i64 (i:Int),.slice p8 rl c8] wc fun e w'=>∃pe ce,e= .returned (.tuple #[.slice pe es.length ce,.nilIface])∧w'.ownsRow wc.heap.size 92 5 (.slice pe es.length ce) es.length (es.flatMap Il)∧Below wc.heap.size wc w'):=Aa (hed.mono fun e w' hE=>by
    obtain⟨v,h1,h2,h3⟩:=hE;rcases h2 with⟨_,h2⟩|⟨h2,_⟩
    ·obtain⟨pe,ce,rfl,_⟩:=Bl h2;exact⟨pe,ce,h1,h2,h3⟩
    ·exact absurd rfl h2)
   clear hed
   go_upto_region 3 with(first|(go_at_call 164
                                refine HEX.out.mono ?_
                                rintro e w5 ⟨pe,ce,rfl,hown5,hb5⟩)|fail)
   have HB5:=Aa ((hb5.block gb (Ac.1 HB4.out).1).trans HB4.out);have HP5:=Aa ((hb5.block (gb+1) (Ac.1 HP4.out).1).trans HP4.out);have HZ5:=Aa ((hb5.block (gb+1+1) (Ac.1 HZ4.out).1).trans HZ4.out);have H105:=Aa ((hb5.block g10 (Ac.1 H10.out).1).trans H10.out);have H115:=Aa ((hb5.block g11 (Ac.1 H11.out).1).trans H11.out);have HBW5:=Aa (HBW4.out.trans (hb5.mono (Ar hgB4)));have HB35:=Aa (HB34.out.trans (hb5.mono HB34.out.size));have e35:=Ax hb5 e34;have HO5:=Aa (Cm hown5 (Ar hgB4));clear y0 y1 y2 y3 e34 t8 hown5 hb5;obtain⟨y0,y1,y2,y3⟩:=Cp _ _ _ _ _ _ _ HB5.out;have u3:w5.cell? ⟨g11,3,none⟩=some (.bool nm):=(Am w5 g11 3 _ _ (0,0) H115.out).trans rfl;obtain⟨au,hau⟩:∃au,au=(!hs_ || nm):=⟨_,rfl⟩
   have HAU:=Aa hau;clear hau;go_upto_region 5 with fail
   go_cut [14] (fun s14 wx=>s14= .bool au∧w5=wx)
   case first=>
    cases hs_ with
    |false=>
     obtain rfl:au=true:=by rw[HAU.out];rfl
     go_wp2_with fail
     go_meet;exact⟨rfl,rfl⟩
    |true=>
     obtain rfl:au=nm:=by rw[HAU.out];rfl
     go_wp2_with fail
     go_meet;exact⟨rfl,rfl⟩
   case rest=>
    obtain⟨rfl,rfl⟩:=hcut;have HSALL:Hid (∀W:World,W.heap[gb+1]?=some (.cells #[.int .i64 x.at_,.int .i64 x.size] 213 (0,0))→W.heap[g10]?=some (.cells #[.string s.name,.int .i64 s.type,.int .i64 s.flags,.int .i64 s.align,.int .i64 s.ent,.int .i64 s.link,.int .i64 s.size,.slice p7 dl c7,.slice p8 rl c8] 89 (0,0))→W.heap[g11]?=some (.cells #[.slice pp pn cp,.int .i64 fst,.int .i64 G,.bool nm] 211 (0,0))→W.cell? ⟨gb+1,0,none⟩=some (.int .i64 x.at_)∧W.cell? ⟨gb+1,1,none⟩=some (.int .i64 x.size)∧W.cell? ⟨g10,0,none⟩=some (.string s.name)∧W.cell? ⟨g10,1,none⟩=some (.int .i64 s.type)∧W.cell? ⟨g10,2,none⟩=some (.int .i64 s.flags)∧W.cell? ⟨g10,3,none⟩=some (.int .i64 s.align)∧W.cell? ⟨g10,4,none⟩=some (.int .i64 s.ent)∧W.cell? ⟨g10,5,none⟩=some (.int .i64 s.link)∧W.cell? ⟨g10,6,none⟩=some (.int .i64 s.size)∧W.cell? ⟨g10,7,none⟩=some (.slice p7 dl c7)∧W.cell? ⟨g10,8,none⟩=some (.slice p8 rl c8)∧W.cell? ⟨g11,2,none⟩=some (.int .i64 G)):=Aa fun W w1 w2 w3=>
     ⟨(Am W (gb+1) 0 _ _ (0,0) w1).trans rfl,(Am W (gb+1) 1 _ _ (0,0) w1).trans rfl,(Am W g10 0 _ _ (0,0) w2).trans rfl,(Am W g10 1 _ _ (0,0) w2).trans rfl,(Am W g10 2 _ _ (0,0) w2).trans rfl,(Am W g10 3 _ _ (0,0) w2).trans rfl,(Am W g10 4 _ _ (0,0) w2).trans rfl,(Am W g10 5 _ _ (0,0) w2).trans rfl,(Am W g10 6 _ _ (0,0) w2).trans rfl,(Am W g10 7 _ _ (0,0) w2).trans rfl,(Am W g10 8 _ _ (0,0) w2).trans rfl,(Am W g11 2 _ _ (0,0) w3).trans rfl⟩
    have hS5:w5.cell? ⟨gb+1,0,none⟩=some (.int .i64 x.at_)∧w5.cell? ⟨gb+1,1,none⟩=some (.int .i64 x.size)∧w5.cell? ⟨g10,0,none⟩=some (.string s.name)∧w5.cell? ⟨g10,1,none⟩=some (.int .i64 s.type)∧w5.cell? ⟨g10,2,none⟩=some (.int .i64 s.flags)∧w5.cell? ⟨g10,3,none⟩=some (.int .i64 s.align)∧w5.cell? ⟨g10,4,none⟩=some (.int .i64 s.ent)∧w5.cell? ⟨g10,5,none⟩=some (.int .i64 s.link)∧w5.cell? ⟨g10,6,none⟩=some (.int .i64 s.size)∧w5.cell? ⟨g10,7,none⟩=some (.slice p7 dl c7)∧w5.cell? ⟨g10,8,none⟩=some (.slice p8 rl c8)∧w5.cell? ⟨g11,2,none⟩=some (.int .i64 G):=HSALL.out w5 HP5.out H105.out H115.out;have hS5d:w5.drew.cell? ⟨gb+1,0,none⟩=some (.int .i64 x.at_)∧w5.drew.cell? ⟨gb+1,1,none⟩=some (.int .i64 x.size)∧w5.drew.cell? ⟨g10,0,none⟩=some (.string s.name)∧w5.drew.cell? ⟨g10,1,none⟩=some (.int .i64 s.type)∧w5.drew.cell? ⟨g10,2,none⟩=some (.int .i64 s.flags)∧w5.drew.cell? ⟨g10,3,none⟩=some (.int .i64 s.align)∧w5.drew.cell? ⟨g10,4,none⟩=some (.int .i64 s.ent)∧w5.drew.cell? ⟨g10,5,none⟩=some (.int .i64 s.link)∧w5.drew.cell? ⟨g10,6,none⟩=some (.int .i64 s.size)∧w5.drew.cell? ⟨g10,7,none⟩=some (.slice p7 dl c7)∧w5.drew.cell? ⟨g10,8,none⟩=some (.slice p8 rl c8)∧w5.drew.cell? ⟨g11,2,none⟩=some (.int .i64 G):=HSALL.out w5.drew HP5.out H105.out H115.out;obtain⟨uq,huq⟩:∃uq,uq=(au&& !hasF s.flags 16):=⟨_,rfl⟩
    have HUQ:=Aa huq;have hk16:(bits .and .i64 s.flags 16==0)= !hasF s.flags 16:=by
     have:=Ld 4 (by omega) HSG.out.facts.2.2.2 HSG.out.bd.1.2;unfold hasO at this;rw[show(2:Int) ^ 4=16 by decide]at this;rw[←this];unfold bne;rw[Bool.not_not]
    obtain⟨f16,hf16⟩:∃f16,f16= !hasF s.flags 16:=⟨_,rfl⟩
    rw[←hf16]at hk16;have HF16:=Aa hf16;have HBY:=Aa fun W (hW:Below w3.heap.size w3 W)=>Jhy s x p7 p8 c7 rl c8 W (HD7.out.1.below Ds.keeps hW) HD7.out.2.1 HD7.out.2.2.1 HD7.out.2.2.2 HSG.out HX.out;rw[←HDL.out]at HBY;have hgb2:gb+1+1 < w5.heap.size:=(Ac.1 HZ5.out).1;clear huq hf16 e35 y0 y1 y2 y3 u3;cases au with
    |true=>
     obtain rfl:f16=uq:=by rw[HUQ.out,HF16.out];rfl
     go_wp2_with fail
     go_region_held3 (fun W=>W.cell? ⟨gb+1,0,none⟩=some (.int .i64 x.at_)∧W.cell? ⟨gb+1,1,none⟩=some (.int .i64 x.size)∧W.cell? ⟨g10,0,none⟩=some (.string s.name)∧W.cell? ⟨g10,1,none⟩=some (.int .i64 s.type)∧W.cell? ⟨g10,2,none⟩=some (.int .i64 s.flags)∧W.cell? ⟨g10,3,none⟩=some (.int .i64 s.align)∧W.cell? ⟨g10,4,none⟩=some (.int .i64 s.ent)∧W.cell? ⟨g10,5,none⟩=some (.int .i64 s.link)∧W.cell? ⟨g10,6,none⟩=some (.int .i64 s.size)∧W.cell? ⟨g10,7,none⟩=some (.slice p7 dl c7)∧W.cell? ⟨g10,8,none⟩=some (.slice p8 rl c8)∧W.cell? ⟨g11,2,none⟩=some (.int .i64 G)) (first|with_reducible exact hS5|with_reducible exact hS5d|with_reducible exact hS6|with_reducible exact HS7.out|fail)
      ((first
        |(go_at_call 165
          refine(HBY.out w5.drew HB35.out.drew).mono ?_;rintro e w6 ⟨v6,rfl,hown6,hb6⟩;obtain⟨p9,n9,c9,rfl⟩:∃p9 n9 c9,v6= .slice p9 n9 c9:=by obtain⟨p9,c9,e,_⟩:=Bl hown6;exact⟨_,_,_,e⟩
          have hb56:Below w5.heap.size w5 w6:=Kk (w:=w5) hb6 rfl;have hP6:=(hb56.block (gb+1) (by omega)).trans HP5.out;have h106:=(hb56.block g10 (Ac.1 H105.out).1).trans H105.out;have h116:=(hb56.block g11 (Ac.1 H115.out).1).trans H115.out;have hZ6:=(hb56.block (gb+1+1) (Ac.1 HZ5.out).1).trans HZ5.out;have hS6:w6.cell? ⟨gb+1,0,none⟩=some (.int .i64 x.at_)∧w6.cell? ⟨gb+1,1,none⟩=some (.int .i64 x.size)∧w6.cell? ⟨g10,0,none⟩=some (.string s.name)∧w6.cell? ⟨g10,1,none⟩=some (.int .i64 s.type)∧w6.cell? ⟨g10,2,none⟩=some (.int .i64 s.flags)∧w6.cell? ⟨g10,3,none⟩=some (.int .i64 s.align)∧w6.cell? ⟨g10,4,none⟩=some (.int .i64 s.ent)∧w6.cell? ⟨g10,5,none⟩=some (.int .i64 s.link)∧w6.cell? ⟨g10,6,none⟩=some (.int .i64 s.size)∧w6.cell? ⟨g10,7,none⟩=some (.slice p7 dl c7)∧w6.cell? ⟨g10,8,none⟩=some (.slice p8 rl c8)∧w6.cell? ⟨g11,2,none⟩=some (.int .i64 G):=HSALL.out w6 hP6 h106 h116;have HST:=Aa (Uk (.int .i64 (i:Int)) (.int .i64 ((k:Int)+1)) (.int .i64 x.at_) (.string s.name) (.int .i64 s.type) (.int .i64 s.flags) (.int .i64 s.align) (.int .i64 s.ent) (.int .i64 x.size) (.slice p9 n9 c9) (.slice pe es.length ce) (.bool f16) (.int .i64 G) (.int .i64 s.link) (show gb≤gb+1+1 by omega) hZ6);have HS7:=Aa (HSALL.out _ (HST.out.2.heap hP6 (by decide)) (HST.out.2.heap h106 (by decide)) (HST.out.2.heap h116 (by decide)));have hc:∀j v,(nodeZ.toArray:Array Value)[j]?=some v→w6.cell? ⟨gb+1+1,j,none⟩=some v:=fun j v hv=>(Am w6 (gb+1+1) j _ _ (0,0) hZ6).trans hv;have hf:∀j,w6.frozen? ⟨gb+1+1,j,none⟩=false:=fun j=>Ap w6 (gb+1+1) j _ _ hZ6;have z0:=hc 0 _ rfl;have y0:=hf 0;have z1:=hc 1 _ rfl;have y1:=hf 1;have z2:=hc 2 _ rfl;have y2:=hf 2;have z3:=hc 3 _ rfl;have y3:=hf 3;have z4:=hc 4 _ rfl;have y4:=hf 4;have z5:=hc 5 _ rfl;have y5:=hf 5;have z6:=hc 6 _ rfl;have y6:=hf 6;have z7:=hc 7 _ rfl;have y7:=hf 7;have z8:=hc 8 _ rfl;have y8:=hf 8;have z9:=hc 9 _ rfl;have y9:=hf 9;have z10:=hc 10 _ rfl;have y10:=hf 10;have z11:=hc 11 _ rfl;have y11:=hf 11;have z12:=hc 12 _ rfl;have y12:=hf 12;have z13:=hc 13 _ rfl;have y13:=hf 13;have HOWN6:=Aa hown6;have HB56:=Aa hb56
          clear hc hf hP6 h106 h116 hZ6 hown6 hb56 hb6)
        |fail))
     go_wp2_with fail
     have hbw7:Below gb w w6:=HBW5.out.trans (HB56.out.mono (by have h:=HBW5.out.size;rw[←HGB.out]at h;exact h));refine bodyPost_ret (Qa rfl _ _ _ _ _ _ _ _ _ _ _ _ _ _ _ _ _ _ (by rfl) (by rfl) HST.out.1) rfl ?_;refine⟨_,rfl,.inr ⟨rfl,Bp.mk res (.slice p9 n9 c9) (.slice pe es.length ce),?_,rfl,?_⟩,?_⟩
     ·have hU:Ml l D (i,k,s)=f16:=by
       unfold Ml;rw[Va HI.out];show(bif hasF s.flags 16 then false else bif !o.hasSig then true else Lm l D i ((k:Int)+1))=_;rw[←HHS.out,←HNM.out];have e1:=HAU.out;rw[HF16.out]
       revert e1
       cases hasF s.flags 16<;>cases hs_<;>cases nm<;>simp
      show _=Bp.cells ⟨res,_,_⟩;rw[HRES.out];show _= [Value.int .i64 (i:Int),.int .i64 ((k:Int)+1),.int .i64 x.at_,.string s.name,.int .i64 s.type,.int .i64 s.flags,.int .i64 s.align,.int .i64 s.ent,.int .i64 x.size,.slice p9 n9 c9,.slice pe es.length ce,.bool (Ml l D (i,k,s)),.int .i64 (Gm l i ((k:Int)+1)),.int .i64 s.link];rw[hU,←HG.out]
     ·have hfin:=HST.out.2;have hgs6:gb≤w5.heap.size:=by have h:=HBW5.out.size;rw[←HGB.out]at h;exact h
      rw[←HGB.out];refine⟨?_,?_,?_,?_⟩
      ·have h1:=Cm HOWN6.out hgs6;have h2:=hfin.owns h1 (by decide);rw[HRES.out];exact h2
      ·have h1:=Bd HO5.out HB56.out;have h2:=hfin.owns h1 (by decide);have h3:res.edges=es:=by rw[HRES.out,HES.out];rfl
       show World.ownsRow _ gb 92 5 (.slice pe es.length ce) res.edges.length (res.edges.flatMap Il);rw[h3];exact h2
      ·have h3:res.edges=es:=by rw[HRES.out,HES.out];rfl
       show∀r∈res.edges,r.bd;rw[h3,HES.out];exact HEBD.out
      ·show res.bd;rw[HRES.out];exact HNBD.out
     ·rw[←HGB.out];exact hbw7.trans (HST.out.2.below (by have h:=hbw7.size;rw[←HGB.out]at h;exact h))
    |false=>
     obtain rfl:uq=false:=by rw[HUQ.out];rfl
     go_wp2_with fail
     refine wp_region_held_drew (S:=(fun W=>W.cell? ⟨gb+1,0,none⟩=some (.int .i64 x.at_)∧W.cell? ⟨gb+1,1,none⟩=some (.int .i64 x.size)∧W.cell? ⟨g10,0,none⟩=some (.string s.name)∧W.cell? ⟨g10,1,none⟩=some (.int .i64 s.type)∧W.cell? ⟨g10,2,none⟩=some (.int .i64 s.flags)∧W.cell? ⟨g10,3,none⟩=some (.int .i64 s.align)∧W.cell? ⟨g10,4,none⟩=some (.int .i64 s.ent)∧W.cell? ⟨g10,5,none⟩=some (.int .i64 s.link)∧W.cell? ⟨g10,6,none⟩=some (.int .i64 s.size)∧W.cell? ⟨g10,7,none⟩=some (.slice p7 dl c7)∧W.cell? ⟨g10,8,none⟩=some (.slice p8 rl c8)∧W.cell? ⟨g11,2,none⟩=some (.int .i64 G))) (by kernel_rfl) hS5d (fun hHeld=>?_);refine wpAnyH_take (i:=0) (v:=?_) rfl (by kernel_rfl) (by kernel_rfl) (by kernel_rfl) (fun _ _ _ h=>h) (Or.inl ⟨by rfl,?_⟩) (by assumption) ?_
     rotate_left 1
     ·(intro W hSw;(try dsimp only at hSw);go_simp;(try with_reducible rfl))
     (try simp only[Act.put]);(repeat (first|simp only[List.setIfInBounds_toArray]|simp only[List.set_cons_succ]|simp only[List.set_cons_zero]))
     refine wpAnyH_take (i:=1) (v:=?_) rfl (by kernel_rfl) (by kernel_rfl) (by kernel_rfl) (fun _ _ _ h=>h) (Or.inl ⟨by rfl,?_⟩) (by assumption) ?_
     rotate_left 1
     ·(intro W hSw;(try dsimp only at hSw);go_simp;(try with_reducible rfl))
     (try simp only[Act.put]);(repeat (first|simp only[List.setIfInBounds_toArray]|simp only[List.set_cons_succ]|simp only[List.set_cons_zero]))
     refine wpAnyH_take (i:=2) (v:=?_) rfl (by kernel_rfl) (by kernel_rfl) (by kernel_rfl) (fun _ _ _ h=>h) (Or.inl ⟨by rfl,?_⟩) (by assumption) ?_
     rotate_left 1
     ·(intro W hSw;(try dsimp only at hSw);go_simp;(try with_reducible rfl))
     (try simp only[Act.put]);(repeat (first|simp only[List.setIfInBounds_toArray]|simp only[List.set_cons_succ]|simp only[List.set_cons_zero]))
     refine wpAnyH_take (i:=3) (v:=?_) rfl (by kernel_rfl) (by kernel_rfl) (by kernel_rfl) (fun _ _ _ h=>h) (Or.inl ⟨by rfl,?_⟩) (by assumption) ?_
     rotate_left 1
     ·(intro W hSw;(try dsimp only at hSw);go_simp;(try with_reducible rfl))
     (try simp only[Act.put]);(repeat (first|simp only[List.setIfInBounds_toArray]|simp only[List.set_cons_succ]|simp only[List.set_cons_zero]))
     refine wpAnyH_take (i:=4) (v:=?_) rfl (by kernel_rfl) (by kernel_rfl) (by kernel_rfl) (fun _ _ _ h=>h) (Or.inl ⟨by rfl,?_⟩) (by assumption) ?_
     rotate_left 1
     ·(intro W hSw;(try dsimp only at hSw);go_simp;(try with_reducible rfl))
     (try simp only[Act.put]);(repeat (first|simp only[List.setIfInBounds_toArray]|simp only[List.set_cons_succ]|simp only[List.set_cons_zero]))
     refine wpAnyH_take (i:=5) (v:=?_) rfl (by kernel_rfl) (by kernel_rfl) (by kernel_rfl) (fun _ _ _ h=>h) (Or.inl ⟨by rfl,?_⟩) (by assumption) ?_
     rotate_left 1
     ·(intro W hSw;(try dsimp only at hSw);go_simp;(try with_reducible rfl))
     (try simp only[Act.put]);(repeat (first|simp only[List.setIfInBounds_toArray]|simp only[List.set_cons_succ]|simp only[List.set_cons_zero]))
     refine wpAnyH_take (i:=6) (v:=?_) rfl (by kernel_rfl) (by kernel_rfl) (by kernel_rfl) (fun _ _ _ h=>h) (Or.inl ⟨by rfl,?_⟩) (by assumption) ?_
     rotate_left 1
     ·(intro W hSw;(try dsimp only at hSw);go_simp;(try with_reducible rfl))
     (try simp only[Act.put]);(repeat (first|simp only[List.setIfInBounds_toArray]|simp only[List.set_cons_succ]|simp only[List.set_cons_zero]))
     refine wpAnyH_take (i:=7) (v:=?_) rfl (by kernel_rfl) (by kernel_rfl) (by kernel_rfl) (fun _ _ _ h=>h) (Or.inl ⟨by rfl,?_⟩) (by assumption) ?_
     rotate_left 1
     ·(intro W hSw;(try dsimp only at hSw);go_simp;(try with_reducible rfl))
     (try simp only[Act.put]);(repeat (first|simp only[List.setIfInBounds_toArray]|simp only[List.set_cons_succ]|simp only[List.set_cons_zero]))
     refine wpAnyH_take (i:=8) (v:=?_) rfl (by kernel_rfl) (by kernel_rfl) (by kernel_rfl) (fun _ _ _ h=>h) (Or.inl ⟨by rfl,?_⟩) (by assumption) ?_
     rotate_left 1
     ·(intro W hSw;(try dsimp only at hSw);go_simp;(try with_reducible rfl))
     (try simp only[Act.put]);(repeat (first|simp only[List.setIfInBounds_toArray]|simp only[List.set_cons_succ]|simp only[List.set_cons_zero]))
     refine wpAnyH_take (i:=9) (v:=?_) rfl (by kernel_rfl) (by kernel_rfl) (by kernel_rfl) (fun _ _ _ h=>h) (Or.inl ⟨by rfl,?_⟩) (by assumption) ?_
     rotate_left 1
     ·(intro W hSw;(try dsimp only at hSw);go_simp;(try with_reducible rfl))
     (try simp only[Act.put]);(repeat (first|simp only[List.setIfInBounds_toArray]|simp only[List.set_cons_succ]|simp only[List.set_cons_zero]))
     refine wpAnyH_take (i:=10) (v:=?_) rfl (by kernel_rfl) (by kernel_rfl) (by kernel_rfl) (fun _ _ _ h=>h) (Or.inl ⟨by rfl,?_⟩) (by assumption) ?_
     rotate_left 1
     ·(intro W hSw;(try dsimp only at hSw);go_simp;(try with_reducible rfl))
     (try simp only[Act.put]);(repeat (first|simp only[List.setIfInBounds_toArray]|simp only[List.set_cons_succ]|simp only[List.set_cons_zero]))
     refine wpAnyH_take (i:=11) (v:=?_) rfl (by kernel_rfl) (by kernel_rfl) (by kernel_rfl) (fun _ _ _ h=>h) (Or.inl ⟨by rfl,?_⟩) (by assumption) ?_
     rotate_left 1
     ·(intro W hSw;(try dsimp only at hSw);go_simp;(try with_reducible rfl))
     (try simp only[Act.put]);(repeat (first|simp only[List.setIfInBounds_toArray]|simp only[List.set_cons_succ]|simp only[List.set_cons_zero]))
     refine wpAnyH_take (i:=12) (v:=?_) rfl (by kernel_rfl) (by kernel_rfl) (by kernel_rfl) (fun _ _ _ h=>h) (Or.inl ⟨by rfl,?_⟩) (by assumption) ?_
     rotate_left 1
     ·(intro W hSw;(try dsimp only at hSw);go_simp;(try with_reducible rfl))
     (try simp only[Act.put]);(repeat (first|simp only[List.setIfInBounds_toArray]|simp only[List.set_cons_succ]|simp only[List.set_cons_zero]))
     refine wpAnyH_take (i:=13) (v:=?_) rfl (by kernel_rfl) (by kernel_rfl) (by kernel_rfl) (fun _ _ _ h=>h) (Or.inl ⟨by rfl,?_⟩) (by assumption) ?_
     rotate_left 1
     ·(intro W hSw;(try dsimp only at hSw);go_simp;(try with_reducible rfl))
     (try simp only[Act.put]);(repeat (first|simp only[List.setIfInBounds_toArray]|simp only[List.set_cons_succ]|simp only[List.set_cons_zero]))
     refine wpAnyH_take (i:=14) (v:=?_) rfl (by kernel_rfl) (by kernel_rfl) (by kernel_rfl) (fun _ _ _ h=>h) (Or.inl ⟨by rfl,?_⟩) (by assumption) ?_
     rotate_left 1
     ·(intro W hSw;(try dsimp only at hSw);go_simp;(try with_reducible rfl))
     (try simp only[Act.put]);(repeat (first|simp only[List.setIfInBounds_toArray]|simp only[List.set_cons_succ]|simp only[List.set_cons_zero]))
     refine wpAnyH_take (i:=15) (v:=?_) rfl (by kernel_rfl) (by kernel_rfl) (by kernel_rfl) (fun _ _ _ h=>h) (Or.inl ⟨by rfl,?_⟩) (by assumption) ?_
     rotate_left 1
     ·(intro W hSw;(try dsimp only at hSw);go_simp;(try with_reducible rfl))
     (try simp only[Act.put]);(repeat (first|simp only[List.setIfInBounds_toArray]|simp only[List.set_cons_succ]|simp only[List.set_cons_zero]))
     refine wpAnyH_take (i:=16) (v:=?_) rfl (by kernel_rfl) (by kernel_rfl) (by kernel_rfl) (fun _ _ _ h=>h) (Or.inl ⟨by rfl,?_⟩) (by assumption) ?_
     rotate_left 1
     ·(intro W hSw;(try dsimp only at hSw);go_simp;(try with_reducible rfl))
     (try simp only[Act.put]);(repeat (first|simp only[List.setIfInBounds_toArray]|simp only[List.set_cons_succ]|simp only[List.set_cons_zero]))
     refine wpAnyH_take (i:=17) (v:=?_) rfl (by kernel_rfl) (by kernel_rfl) (by kernel_rfl) (fun _ _ _ h=>h) (Or.inl ⟨by rfl,?_⟩) (by assumption) ?_
     rotate_left 1
     ·(intro W hSw;(try dsimp only at hSw);go_simp;(try with_reducible rfl))
     (try simp only[Act.put]);(repeat (first|simp only[List.setIfInBounds_toArray]|simp only[List.set_cons_succ]|simp only[List.set_cons_zero]))
     refine wpAnyH_take (i:=19) (v:=?_) rfl (by kernel_rfl) (by kernel_rfl) (by kernel_rfl) (fun _ _ _ h=>h) (Or.inl ⟨by rfl,?_⟩) (by assumption) ?_
     rotate_left 1
     ·(intro W hSw;(try dsimp only at hSw);go_simp;(try with_reducible rfl))
     (try simp only[Act.put]);(repeat (first|simp only[List.setIfInBounds_toArray]|simp only[List.set_cons_succ]|simp only[List.set_cons_zero]))
     refine wpAnyH_take (i:=20) (v:=?_) rfl (by kernel_rfl) (by kernel_rfl) (by kernel_rfl) (fun _ _ _ h=>h) (Or.inl ⟨by rfl,?_⟩) (by assumption) ?_
     rotate_left 1
     ·(intro W hSw;(try dsimp only at hSw);go_simp;(try with_reducible rfl))
     (try simp only[Act.put]);(repeat (first|simp only[List.setIfInBounds_toArray]|simp only[List.set_cons_succ]|simp only[List.set_cons_zero]))
     refine wpAnyH_take (i:=27) (v:=?_) rfl (by kernel_rfl) (by kernel_rfl) (by kernel_rfl) (fun _ _ _ h=>h) (Or.inl ⟨by rfl,?_⟩) (by assumption) ?_
     rotate_left 1
     ·(intro W hSw;(try dsimp only at hSw);go_simp;(try with_reducible rfl))
     (try simp only[Act.put]);(repeat (first|simp only[List.setIfInBounds_toArray]|simp only[List.set_cons_succ]|simp only[List.set_cons_zero]))
     refine wpAnyH_take (i:=28) (v:=?_) rfl (by kernel_rfl) (by kernel_rfl) (by kernel_rfl) (fun _ _ _ h=>h) (Or.inl ⟨by rfl,?_⟩) (by assumption) ?_
     rotate_left 1
     ·(intro W hSw;(try dsimp only at hSw);go_simp;(try with_reducible rfl))
     (try simp only[Act.put]);(repeat (first|simp only[List.setIfInBounds_toArray]|simp only[List.set_cons_succ]|simp only[List.set_cons_zero]))
     refine wpAnyH_take (i:=29) (v:=?_) rfl (by kernel_rfl) (by kernel_rfl) (by kernel_rfl) (fun _ _ _ h=>h) (Or.inl ⟨by rfl,?_⟩) (by assumption) ?_
     rotate_left 1
     ·(intro W hSw;(try dsimp only at hSw);go_simp;(try with_reducible rfl))
     (try simp only[Act.put]);(repeat (first|simp only[List.setIfInBounds_toArray]|simp only[List.set_cons_succ]|simp only[List.set_cons_zero]))
     refine wpAnyH_take (i:=30) (v:=?_) rfl (by kernel_rfl) (by kernel_rfl) (by kernel_rfl) (fun _ _ _ h=>h) (Or.inl ⟨by rfl,?_⟩) (by assumption) ?_
     rotate_left 1
     ·(intro W hSw;(try dsimp only at hSw);go_simp;(try with_reducible rfl))
     (try simp only[Act.put]);(repeat (first|simp only[List.setIfInBounds_toArray]|simp only[List.set_cons_succ]|simp only[List.set_cons_zero]))
     refine wpAnyH_ready (rs:= [18]) (by kernel_rfl) (by simp) ?_;refine AllReadyH.cons rfl (fun K hK=>?_) AllReadyH.nil;go_simp;refine(HBY.out w5.drew HB35.out.drew).mono ?_;rintro e w6 ⟨v6,rfl,hown6,hb6⟩;obtain⟨p9,n9,c9,rfl⟩:∃p9 n9 c9,v6= .slice p9 n9 c9:=by obtain⟨p9,c9,e,_⟩:=Bl hown6;exact⟨_,_,_,e⟩
     have hb56:Below w5.heap.size w5 w6:=Kk (w:=w5) hb6 rfl;have hP6:=(hb56.block (gb+1) (by omega)).trans HP5.out;have h106:=(hb56.block g10 (Ac.1 H105.out).1).trans H105.out;have h116:=(hb56.block g11 (Ac.1 H115.out).1).trans H115.out;have hZ6:=(hb56.block (gb+1+1) (Ac.1 HZ5.out).1).trans HZ5.out;have hS6:w6.cell? ⟨gb+1,0,none⟩=some (.int .i64 x.at_)∧w6.cell? ⟨gb+1,1,none⟩=some (.int .i64 x.size)∧w6.cell? ⟨g10,0,none⟩=some (.string s.name)∧w6.cell? ⟨g10,1,none⟩=some (.int .i64 s.type)∧w6.cell? ⟨g10,2,none⟩=some (.int .i64 s.flags)∧w6.cell? ⟨g10,3,none⟩=some (.int .i64 s.align)∧w6.cell? ⟨g10,4,none⟩=some (.int .i64 s.ent)∧w6.cell? ⟨g10,5,none⟩=some (.int .i64 s.link)∧w6.cell? ⟨g10,6,none⟩=some (.int .i64 s.size)∧w6.cell? ⟨g10,7,none⟩=some (.slice p7 dl c7)∧w6.cell? ⟨g10,8,none⟩=some (.slice p8 rl c8)∧w6.cell? ⟨g11,2,none⟩=some (.int .i64 G):=HSALL.out w6 hP6 h106 h116;have HST:=Aa (Uk (.int .i64 (i:Int)) (.int .i64 ((k:Int)+1)) (.int .i64 x.at_) (.string s.name) (.int .i64 s.type) (.int .i64 s.flags) (.int .i64 s.align) (.int .i64 s.ent) (.int .i64 x.size) (.slice p9 n9 c9) (.slice pe es.length ce) (.bool false) (.int .i64 G) (.int .i64 s.link) (show gb≤gb+1+1 by omega) hZ6);have HS7:=Aa (HSALL.out _ (HST.out.2.heap hP6 (by decide)) (HST.out.2.heap h106 (by decide)) (HST.out.2.heap h116 (by decide)));have hc:∀j v,(nodeZ.toArray:Array Value)[j]?=some v→w6.cell? ⟨gb+1+1,j,none⟩=some v:=fun j v hv=>(Am w6 (gb+1+1) j _ _ (0,0) hZ6).trans hv;have hf:∀j,w6.frozen? ⟨gb+1+1,j,none⟩=false:=fun j=>Ap w6 (gb+1+1) j _ _ hZ6;have z0:=hc 0 _ rfl;have y0:=hf 0;have z1:=hc 1 _ rfl;have y1:=hf 1;have z2:=hc 2 _ rfl;have y2:=hf 2;have z3:=hc 3 _ rfl;have y3:=hf 3;have z4:=hc 4 _ rfl;have y4:=hf 4;have z5:=hc 5 _ rfl;have y5:=hf 5;have z6:=hc 6 _ rfl;have y6:=hf 6;have z7:=hc 7 _ rfl;have y7:=hf 7;have z8:=hc 8 _ rfl;have y8:=hf 8;have z9:=hc 9 _ rfl;have y9:=hf 9;have z10:=hc 10 _ rfl;have y10:=hf 10;have z11:=hc 11 _ rfl;have y11:=hf 11;have z12:=hc 12 _ rfl;have y12:=hf 12;have z13:=hc 13 _ rfl;have y13:=hf 13;have HOWN6:=Aa hown6;have HB56:=Aa hb56;clear hc hf hP6 h106 h116 hZ6 hown6 hb56 hb6;go_wp2_with fail
     refine hK.out _ _ hS6 (fun hHeld6=>?_);clear hK K
     (try simp only[Act.put]);(repeat (first|simp only[List.setIfInBounds_toArray]|simp only[List.set_cons_succ]|simp only[List.set_cons_zero]))
     refine wpAnyH_take (i:=21) (v:=?_) rfl (by kernel_rfl) (by kernel_rfl) (by kernel_rfl) (fun _ _ _ h=>h) (Or.inl ⟨by rfl,?_⟩) (by assumption) ?_
     rotate_left 1
     ·(intro W hSw;(try dsimp only at hSw);go_simp;(try with_reducible rfl))
     (try simp only[Act.put]);(repeat (first|simp only[List.setIfInBounds_toArray]|simp only[List.set_cons_succ]|simp only[List.set_cons_zero]))
     refine wpAnyH_take (i:=22) (v:=undef) rfl (by kernel_rfl) (by kernel_rfl) (by kernel_rfl) (fun _ _ _ h=>h) (Or.inr ⟨by kernel_rfl,rfl⟩) (by assumption) ?_
     (try simp only[Act.put]);(repeat (first|simp only[List.setIfInBounds_toArray]|simp only[List.set_cons_succ]|simp only[List.set_cons_zero]))
     refine wpAnyH_take (i:=23) (v:=undef) rfl (by kernel_rfl) (by kernel_rfl) (by kernel_rfl) (fun _ _ _ h=>h) (Or.inr ⟨by kernel_rfl,rfl⟩) (by assumption) ?_
     (try simp only[Act.put]);(repeat (first|simp only[List.setIfInBounds_toArray]|simp only[List.set_cons_succ]|simp only[List.set_cons_zero]))
     refine wpAnyH_take (i:=24) (v:=undef) rfl (by kernel_rfl) (by kernel_rfl) (by kernel_rfl) (fun _ _ _ h=>h) (Or.inr ⟨by kernel_rfl,rfl⟩) (by assumption) ?_
     (try simp only[Act.put]);(repeat (first|simp only[List.setIfInBounds_toArray]|simp only[List.set_cons_succ]|simp only[List.set_cons_zero]))
     refine wpAnyH_take (i:=25) (v:=undef) rfl (by kernel_rfl) (by kernel_rfl) (by kernel_rfl) (fun _ _ _ h=>h) (Or.inr ⟨by kernel_rfl,rfl⟩) (by assumption) ?_
     (try simp only[Act.put]);(repeat (first|simp only[List.setIfInBounds_toArray]|simp only[List.set_cons_succ]|simp only[List.set_cons_zero]))
     refine wpAnyH_take (i:=26) (v:=?_) rfl (by kernel_rfl) (by kernel_rfl) (by kernel_rfl) (fun _ _ _ h=>h) (Or.inl ⟨by rfl,?_⟩) (by assumption) ?_
     rotate_left 1
     ·(intro W hSw;(try dsimp only at hSw);go_simp;(try with_reducible rfl))
     (try simp only[Act.put]);(repeat (first|simp only[List.setIfInBounds_toArray]|simp only[List.set_cons_succ]|simp only[List.set_cons_zero]))
     refine wpAnyH_take (i:=31) (v:=?_) rfl (by kernel_rfl) (by kernel_rfl) (by kernel_rfl) (fun _ _ _ h=>h) (Or.inl ⟨by rfl,?_⟩) (by assumption) ?_
     rotate_left 1
     ·(intro W hSw;(try dsimp only at hSw);go_simp;(try with_reducible rfl))
     (try simp only[Act.put]);(repeat (first|simp only[List.setIfInBounds_toArray]|simp only[List.set_cons_succ]|simp only[List.set_cons_zero]))
     refine wpAnyH_ready (rs:= [32]) (by kernel_rfl) (by simp) ?_;refine AllReadyH.cons rfl (fun K hK=>?_) AllReadyH.nil;go_simp;refine hK.out _ _ HS7.out (fun hHeld7=>?_);clear hK K
     (try simp only[Act.put]);(repeat (first|simp only[List.setIfInBounds_toArray]|simp only[List.set_cons_succ]|simp only[List.set_cons_zero]))
     refine wpAnyH_take (i:=33) (v:=?_) rfl (by kernel_rfl) (by kernel_rfl) (by kernel_rfl) (fun _ _ _ h=>h) (Or.inl ⟨by rfl,?_⟩) (by assumption) ?_
     rotate_left 1
     ·(intro W hSw;(try dsimp only at hSw);go_simp;(try with_reducible rfl))
     (try simp only[Act.put]);(repeat (first|simp only[List.setIfInBounds_toArray]|simp only[List.set_cons_succ]|simp only[List.set_cons_zero]))
     refine wpAnyH_done (by kernel_rfl) ?_ _
     (try simp only[List.getElem_toArray]);(repeat (first|simp only[List.getElem_cons_succ]|simp only[List.getElem_cons_zero]));(repeat (first|simp only[List.setIfInBounds_toArray]|simp only[List.set_cons_succ]|simp only[List.set_cons_zero]))
     go_wp2_with fail
     have hbw7:Below gb w w6:=HBW5.out.trans (HB56.out.mono (by have h:=HBW5.out.size;rw[←HGB.out]at h;exact h));refine bodyPost_ret (Qa rfl _ _ _ _ _ _ _ _ _ _ _ _ _ _ _ _ _ _ (by rfl) (by rfl) HST.out.1) rfl ?_;refine⟨_,rfl,.inr ⟨rfl,Bp.mk res (.slice p9 n9 c9) (.slice pe es.length ce),?_,rfl,?_⟩,?_⟩
     ·have hU:Ml l D (i,k,s)=false:=by
       unfold Ml;rw[Va HI.out];show(bif hasF s.flags 16 then false else bif !o.hasSig then true else Lm l D i ((k:Int)+1))=_;rw[←HHS.out,←HNM.out];have e1:=HAU.out
       revert e1
       cases hasF s.flags 16<;>cases hs_<;>cases nm<;>simp
      show _=Bp.cells ⟨res,_,_⟩;rw[HRES.out];show _= [Value.int .i64 (i:Int),.int .i64 ((k:Int)+1),.int .i64 x.at_,.string s.name,.int .i64 s.type,.int .i64 s.flags,.int .i64 s.align,.int .i64 s.ent,.int .i64 x.size,.slice p9 n9 c9,.slice pe es.length ce,.bool (Ml l D (i,k,s)),.int .i64 (Gm l i ((k:Int)+1)),.int .i64 s.link];rw[hU,←HG.out]
     ·have hfin:=HST.out.2;have hgs6:gb≤w5.heap.size:=by have h:=HBW5.out.size;rw[←HGB.out]at h;exact h
      rw[←HGB.out];refine⟨?_,?_,?_,?_⟩
      ·have h1:=Cm HOWN6.out hgs6;have h2:=hfin.owns h1 (by decide);rw[HRES.out];exact h2
      ·have h1:=Bd HO5.out HB56.out;have h2:=hfin.owns h1 (by decide);have h3:res.edges=es:=by rw[HRES.out,HES.out];rfl
       show World.ownsRow _ gb 92 5 (.slice pe es.length ce) res.edges.length (res.edges.flatMap Il);rw[h3];exact h2
      ·have h3:res.edges=es:=by rw[HRES.out,HES.out];rfl
       show∀r∈res.edges,r.bd;rw[h3,HES.out];exact HEBD.out
      ·show res.bd;rw[HRES.out];exact HNBD.out
     ·rw[←HGB.out];exact hbw7.trans (HST.out.2.below (by have h:=hbw7.size;rw[←HGB.out]at h;exact h))
  ·have HEX:Hid (Calls Tryz.prog 164 #[.agg #[.slice (some ⟨b,off,none⟩) ln c,.slice q1 m1 d1,.slice q2 m2 d2,.slice (some ⟨g,og,none⟩) ln cs],.int .i64 (i:Int),.slice p8 rl c8] wc fun e w'=>e= .returned (.tuple #[.slice none 0 0,.iface 36 (.int .i64 code)])∧Below wc.heap.size wc w'):=Aa (hed.mono fun e w' hE=>by
    obtain⟨v,h1,h2,h3⟩:=hE;rcases h2 with⟨h2,_⟩|⟨_,rfl⟩
    ·exact absurd h2 hc
    ·exact⟨by rw[h1];unfold Fk;rw[if_neg hc],h3⟩)
   clear hed
   go_upto_region 3 with(first|(go_at_call 164
                                refine HEX.out.mono ?_
                                rintro e w5 ⟨rfl,hb5⟩)|fail)
   have hZ5:=(hb5.block (gb+1+1) (Ac.1 HZ4.out).1).trans HZ4.out;have HZ5:=Aa hZ5;have HBW5:=Aa (HBW4.out.trans (hb5.mono (Ar hgB4)));have HSW:=Aa (Jbh nodeZ.toArray (show gb≤gb+1+1 by omega) hZ5);have HSZ:=Aa Tryz.sizeNode;clear y0 y1 y2 y3 e34 t8 hb5 hZ5;go_wp2_with (first|(refine wpList_store_row rfl 86 _ _ rfl (gb+1+1) nodeZ.toArray rfl rfl 86 nodeZ.toArray HZ5.out HSZ.out rfl (Jec _ _ _ _ _ _ _ _ _ _ _ _ _ _ _ _ _ _) ?_)|fail)
   exact bodyPost_ret (Qa rfl _ _ _ _ _ _ _ _ _ _ _ _ _ _ _ _ _ _ (by rfl) (by rfl) HSW.out.1) rfl ⟨nodeZ,by unfold Fk;rw[if_neg hc];rfl,.inl ⟨hc,rfl⟩,by rw[←HGB.out];exact HBW5.out.trans (HSW.out.2.below (by have:=HBW5.out.size;rw[←HGB.out]at this;exact this))⟩
end Go.Proofs.YteopgmieindojaaGreat
