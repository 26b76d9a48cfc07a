/- Parts of a proof. -/
import Derived.Test.YteopgmieindojaaGreatGX33
import Derived.Deep.RegionHeld3
set_option maxRecDepth 1000000
set_option maxHeartbeats 8000000
namespace Go.Proofs.YteopgmieindojaaGreat
open Go.RowKit
theorem Jdr(o:Az)(v0 v1 v2 v4:Value)(w:World)(hp:Dn w v0 v1 v2 v4 o)(hl:Ho o):
 Calls Tryz.prog 13 #[Gq v0 v1 v2 o.hasSig v4] w (Fe (bytesOf o) w):=by
 obtain⟨i0,hi,hz0,hz1,hz2⟩:=info_parts Tryz.infoRefPart;have HI:=Aa hi;have H0:=Aa hz0;have H1:=Aa hz1;have H2:=Aa hz2;have hb1:Below w.heap.size w (w.alloc (.cells #[v0,v1,v2,.bool o.hasSig,v4] 27)):=(Ag _ w).alloc (Af _) _;have hpW:=hp.below hb1;obtain⟨hq,hys,hgp,hsg⟩:=hpW;have HR:=Aa fun(a:Int)(W:World)(hW:Below (w.alloc (.cells #[v0,v1,v2,.bool o.hasSig,v4] 27)).heap.size (w.alloc (.cells #[v0,v1,v2,.bool o.hasSig,v4] 27)) W)=>Jeb o v0 v1 v2 v4 a W (hq.below Ev.keeps hW) hl;have HG:=Aa fun(a:Int)(W:World)(hW:Below (w.alloc (.cells #[v0,v1,v2,.bool o.hasSig,v4] 27)).heap.size (w.alloc (.cells #[v0,v1,v2,.bool o.hasSig,v4] 27)) W)=>Jaf o v0 v1 v2 v4 a W (hgp.below Ew.keeps hW) (hsg.below Cc.keeps hW) hl;have HY:=Aa fun(a:Int)(ha:0≤a∧a≤1000)(W:World)(hW:Below (w.alloc (.cells #[v0,v1,v2,.bool o.hasSig,v4] 27)).heap.size (w.alloc (.cells #[v0,v1,v2,.bool o.hasSig,v4] 27)) W)=>Jc3 o v0 v1 v2 v4 a W ha (hys.below Ie.keeps hW) hl;obtain⟨p0,c0,rfl,q1,q2,_,hqh⟩:=hq;have a0:(w.alloc (.cells #[.slice p0 o.secs.length c0,v1,v2,.bool o.hasSig,v4] 27)).cell? ⟨w.heap.size,0,none⟩=some (.slice p0 o.secs.length c0):=by simp
 have a1:(w.alloc (.cells #[.slice p0 o.secs.length c0,v1,v2,.bool o.hasSig,v4] 27)).cell? ⟨w.heap.size,1,none⟩=some v1:=by simp
 have a2:(w.alloc (.cells #[.slice p0 o.secs.length c0,v1,v2,.bool o.hasSig,v4] 27)).cell? ⟨w.heap.size,2,none⟩=some v2:=by simp
 have a3:(w.alloc (.cells #[.slice p0 o.secs.length c0,v1,v2,.bool o.hasSig,v4] 27)).cell? ⟨w.heap.size,3,none⟩=some (.bool o.hasSig):=by simp
 have a4:(w.alloc (.cells #[.slice p0 o.secs.length c0,v1,v2,.bool o.hasSig,v4] 27)).cell? ⟨w.heap.size,4,none⟩=some v4:=by simp
 have hgs:(w.alloc (.cells #[.slice p0 o.secs.length c0,v1,v2,.bool o.hasSig,v4] 27)).heap.size=w.heap.size+1:=by simp
 have hns:=hl.nsec;have HS:=Aa hl.secs;have HQ:=Aa hqh;have HB1:=Aa hb1;have HL:=Aa hl;have hat:Dv o=1+o.secs.length+(relPs 0 o.secs o.secs.length).length+(groupPs 0 o.groups o.hasSig o.sig).length:=rfl;have hpo:Ci o=Fw::o.secs.map Eg++relPs (Dv o) o.secs o.secs.length++groupPs (Dv o) o.groups o.hasSig o.sig++symPs (Dv o) o.syms:=rfl;have hale:=Kn hl;generalize hql:o.secs.length=ql at*;generalize o.hasSig=sg at*;have HQL:=Aa hql;have HAT:=Aa hat;have HPO:=Aa hpo;clear hp hl hi hz0 hz1 hz2 hb1 hqh hql q1 q2 hat hpo hys hgp hsg;go_enter Tryz.func13,Tryz.ntmps13;go_upto_region 1 with fail
 generalize w.alloc (.cells #[.slice p0 ql c0,v1,v2,.bool sg,v4] 27)=W1 at*;have hgs2:w.heap.size < W1.heap.size:=by omega
 clear hgs;go_upto_block 0 with fail;go_cut [3] (fun r3 wr=>∃(pv:List PV)(pd:List Bk),pd=Fw::o.secs.map Eg∧wr.ownsRow W1.heap.size 106 12 r3 pd.length (pvs true pv)∧Bf wr (fun b=>0≤b∧some b≠r3.ownBlock) pv pd∧Below W1.heap.size W1 wr)
 case first=>
  clear HR HG HY HAT HPO;go_wp2_with fail
  go_loopw [3,4] (fun r3 r4 wr=>∃(k:Nat)(pv:List PV)(pd:List Bk),k≤ql∧r4= .int .i64 (k:Int)∧pd=Fw::(o.secs.take k).map Eg∧pd.length≤k+1∧wr.ownsRow W1.heap.size 106 12 r3 pd.length (pvs true pv)∧Bf wr (fun b=>0≤b∧some b≠r3.ownBlock) pv pd∧Below W1.heap.size W1 wr) (fun _ r4 _=>ql - (intOf r4).toNat)
  case atStart=>
   refine⟨0, [⟨Ri,Vc,.slice none 0 0⟩], [Fw],Ak _,rfl,rfl,Af _,World.ownsRow_lit W1 _ 1 (Af _) (by unfold maxLen;omega) rfl,?_,(Ag _ W1).alloc (Af _) _⟩;exact Bf.one ⟨none,0,rfl,Af _,Ak _,fun _=>rfl,fun i x hx=>by simp at hx⟩
  case round=>
   obtain⟨k,pv,pd,hk,rfl,hpd,hpl,hown,hpa,hb⟩:=hrel;have HPD:=Aa hpd;have HPA:=Aa hpa;have z0:=Ax hb a0;have hbs:=hb.size;clear hpd hpa;by_cases hlt:k < ql
   ·obtain⟨b,off,s,rfl,hsk,⟨d0,_⟩,⟨d1,_⟩,⟨d2,_⟩,⟨d3,_⟩,⟨d4,_⟩,⟨d5,_⟩,⟨d6,_⟩,⟨vd,d7,hvd⟩,⟨vr,d8,hvr⟩⟩:=HQ.out.at_ (i:=k) (by rw[HQL.out];exact hlt);obtain⟨dp,dc,rfl,l1,l2,l3,hdh⟩:=hvd;obtain⟨rp,rc,rfl,_,_,_,_⟩:=hvr;have e0:=Ax hb d0;have e1:=Ax hb d1;have e2:=Ax hb d2;have e3:=Ax hb d3;have e4:=Ax hb d4;have e5:=Ax hb d5;have e6:=Ax hb d6;have e7:=Ax hb d7;have e8:=Ax hb d8;have hslr:SlB wr (fun b=>0≤b∧some b≠u3.ownBlock) (.slice dp s.data.length dc) s.data:=((SlB.of_cells hdh rfl l1 l2 l3).below hb).weaken fun b _ h=>⟨Ak _,fun e=>by have:=(hown.lt b e.symm).1;omega⟩
    have hE:Hid (Fw::(o.secs.take (k+1)).map Eg=pd++ [Eg s]):=Aa (by rw[HPD.out,List.take_add_one,hsk];simp);have hba:Below wr.heap.size wr (wr.alloc (.cells #[.string s.name,.int .i64 s.type,.int .i64 s.flags,.int .i64 s.align,.int .i64 s.ent,.int .i64 s.link,.int .i64 s.size,.slice dp s.data.length dc,.slice rp s.rels.length rc] 89)):=(Ag _ wr).alloc (Af _) _;have hsl:Bf (wr.alloc (.cells #[.string s.name,.int .i64 s.type,.int .i64 s.flags,.int .i64 s.align,.int .i64 s.ent,.int .i64 s.link,.int .i64 s.size,.slice dp s.data.length dc,.slice rp s.rels.length rc] 89)) (fun b=>0≤b∧some b≠u3.ownBlock) [⟨Mt s,s.name,(.slice dp s.data.length dc)⟩] [Eg s]:=Bf.one (hslr.below hba);have HPA2:=Aa (HPA.out.below hba);have hown2:=Bd hown hba;have hha:=Dd wr (.cells #[.string s.name,.int .i64 s.type,.int .i64 s.flags,.int .i64 s.align,.int .i64 s.ent,.int .i64 s.link,.int .i64 s.size,.slice dp s.data.length dc,.slice rp s.rels.length rc] 89);have h1c:∀u∈PV.cells true ⟨Mt s,s.name,(.slice dp s.data.length dc)⟩,u.oneCell'=true:=fun u hu=>(hsl.oneCell (q:=true)) u (by simpa[pvs]using hu);have H1C:=Aa h1c;have HSL:=Aa hsl;have hbw:Below W1.heap.size W1 (wr.alloc (.cells #[.string s.name,.int .i64 s.type,.int .i64 s.flags,.int .i64 s.align,.int .i64 s.ent,.int .i64 s.link,.int .i64 s.size,.slice dp s.data.length dc,.slice rp s.rels.length rc] 89)):=hb.trans (hba.mono hbs);have hbws:=hbw.size;have hJ:(k:Int) < (ql:Int):=by omega
    have k2:(0:Int)≤(k:Int):=by omega
    clear hsk d0 d1 d2 d3 d4 d5 d6 d7 d8 hdh l1 l2 l3 hslr hba hown h1c hsl HPA;go_upto_region 6 with fail
    generalize s.data.length=dn at*;generalize s.rels.length=rn at*;generalize wr.alloc (.cells #[.string s.name,.int .i64 s.type,.int .i64 s.flags,.int .i64 s.align,.int .i64 s.ent,.int .i64 s.link,.int .i64 s.size,.slice dp dn dc,.slice rp rn rc] 89)=ws at*;obtain⟨s0,s1,s2,s3,s4,s5,s6,s7,s8⟩:=Tv _ _ _ _ _ _ _ _ _ _ _ _ hha;clear e0 e1 e2 e3 e4 e5 e6 e7 e8 hha z0 hb;go_wp2_with (at_builtin;refine wpList_append_own_at _ rfl (.tmp 30) (.tmp 49) 107 rfl W1.heap.size 106 i0 _ 12 120 Tryz.underlying107 HI.out H0.out H1.out H2.out rfl (by decide) _ pd.length _ rfl (hown2.alloc _) ⟨ws.heap.size,0,none⟩ 1 1 (PV.cells true ⟨Mt s,s.name,(.slice dp dn dc)⟩) rfl rfl (Fi ws _ _) H1C.out (by unfold maxLen;omega) (by omega) (by simp;omega) ?_)
    intro v1 w4 hown4 hg4 _ hat4;have HP:=Aa (Jf HPA2.out HSL.out hown4 hg4 hat4);have hb4:Below W1.heap.size W1 w4:=(hbw.alloc hbw.size _).grown hg4 (by simp;omega) (fun g hg=>(hown2.lt g hg).1);clear hown4 hg4 hat4 hown2 HPA2 HSL hbw;go_wp2_with fail
    go_roundw
    case rel=>exact⟨k+1,_,_,hlt,by go_num,hE.out.symm,by simp;omega,HP.out.1,HP.out.2,hb4⟩
    case measure=>simp[intOf];omega
   ·obtain rfl:k=ql:=by omega
    have hJ:¬(k:Int) < (k:Int):=by omega
    have hE:Hid (pd=Fw::o.secs.map Eg):=Aa (by rw[HPD.out,List.take_of_length_le (by rw[HQL.out];exact Af _)]);go_wp2_with fail
    go_meet;exact⟨pv,pd,hE.out,hown,HPA.out,hb⟩
 case rest=>
  obtain⟨pv,pd,hpd,hown,hpa,hb⟩:=hcut;generalize wc=wl at*;have hml:pd.length=ql+1:=by rw[hpd];simp;exact HQL.out
  have z0:=Ax hb a0;have z1:=Ax hb a1;have z2:=Ax hb a2;have z3:=Ax hb a3;have z4:=Ax hb a4;have hbs:=hb.size;have HPD:=Aa hpd;have HPA:=Aa hpa;have HR0:Hid (∀W,Below W1.heap.size W1 W→Calls Tryz.prog 34 #[Gq (.slice p0 ql c0) v1 v2 sg v4,.int .i64 0] W fun e w'=>∃p c,e= .returned (.slice p (relPs 0 o.secs ql).length c)∧Below W.heap.size W w'):=Aa fun W hW=>(HR.out 0 W hW).mono fun e w' ⟨v,pv,he,ho,_,hbb⟩=>by
   obtain⟨p,c,rfl,_⟩:=Bl ho;exact⟨p,c,he,hbb⟩
  have HG0:Hid (∀W,Below W1.heap.size W1 W→Calls Tryz.prog 35 #[Gq (.slice p0 ql c0) v1 v2 sg v4,.int .i64 0] W fun e w'=>∃p c,e= .returned (.slice p (groupPs 0 o.groups sg o.sig).length c)∧Below W.heap.size W w'):=Aa fun W hW=>(HG.out 0 W hW).mono fun e w' ⟨v,pv,he,ho,_,hbb⟩=>by
   obtain⟨p,c,rfl,_⟩:=Bl ho;exact⟨p,c,he,hbb⟩
  clear hpd hpa a0 a1 a2 a3 a4;have hat2:Dv o=pd.length+(relPs 0 o.secs ql).length+(groupPs 0 o.groups sg o.sig).length:=by rw[HAT.out,hml];omega
  obtain⟨pl,cl,rfl,_,_,_⟩:=Bl hown;generalize hn1:(relPs 0 o.secs ql).length=n1 at*;generalize hn2:(groupPs 0 o.groups sg o.sig).length=n2 at*;generalize hsa:Dv o=sa at*;generalize hm:pd.length=m at*;have HM:=Aa hm;have HML:=Aa hml;have HAT2:=Aa hat2;have kk1:IntKind.i64.wrap ((m:Int)+(n1:Int))=(m:Int)+(n1:Int):=Al _ (by omega);have kk2:IntKind.i64.wrap ((m:Int)+(n1:Int)+(n2:Int))=(m:Int)+(n1:Int)+(n2:Int):=Al _ (by omega);clear hm hml hat2 hn1 hn2 HAT;go_upto_region 7 with fail
  go_cut [6] (fun s6 wx=>s6= .int .i64 (sa:Int)∧Below wl.heap.size wl wx)
  case first=>
   go_region_held3 (fun W=>W.cell? ⟨w.heap.size,0,none⟩=some (.slice p0 ql c0)∧W.cell? ⟨w.heap.size,1,none⟩=some v1∧W.cell? ⟨w.heap.size,2,none⟩=some v2∧W.cell? ⟨w.heap.size,3,none⟩=some (.bool sg)∧W.cell? ⟨w.heap.size,4,none⟩=some v4) (first|go_keep|exact⟨z0,z1,z2,z3,z4⟩|exact⟨e0,e1,e2,e3,e4⟩|exact⟨g0,g1,g2,g3,g4⟩|fail)
    ((first
      |(go_at_call 34
        refine(HR0.out _ (by exact hb.drew)).mono ?_;rintro e w2 ⟨pr,cr,rfl,hbb2⟩;have e0:w2.cell? ⟨w.heap.size,0,none⟩=some (.slice p0 ql c0):=Ax hbb2 z0;have e1:w2.cell? ⟨w.heap.size,1,none⟩=some v1:=Ax hbb2 z1;have e2:w2.cell? ⟨w.heap.size,2,none⟩=some v2:=Ax hbb2 z2;have e3:w2.cell? ⟨w.heap.size,3,none⟩=some (.bool sg):=Ax hbb2 z3;have e4:w2.cell? ⟨w.heap.size,4,none⟩=some v4:=Ax hbb2 z4;have hb2:Below W1.heap.size W1 w2:=hb.drew.trans (hbb2.mono (by exact hbs))
        have hbl2:Below wl.heap.size wl w2:=(Ag _ wl).drew.trans hbb2)
      |(go_at_call 35
        refine(HG0.out _ (by exact hb2)).mono ?_;rintro e w3 ⟨pg,cg,rfl,hbb3⟩;have g0:w3.cell? ⟨w.heap.size,0,none⟩=some (.slice p0 ql c0):=Ax hbb3 e0;have g1:w3.cell? ⟨w.heap.size,1,none⟩=some v1:=Ax hbb3 e1;have g2:w3.cell? ⟨w.heap.size,2,none⟩=some v2:=Ax hbb3 e2;have g3:w3.cell? ⟨w.heap.size,3,none⟩=some (.bool sg):=Ax hbb3 e3;have g4:w3.cell? ⟨w.heap.size,4,none⟩=some v4:=Ax hbb3 e4
        have hbl3:Below wl.heap.size wl w3:=hbl2.trans (hbb3.mono hbl2.size))
      |fail))
   go_wp2_with fail
   go_meet;exact⟨by rw[HAT2.out];push_cast;rfl,hbl3⟩
  case rest=>
   obtain⟨rfl,hbl⟩:=hcut;have hbb0:Below W1.heap.size W1 wc:=hb.trans (hbl.mono hbs);have hbs0:=hbb0.size;have hown0:=Bd hown hbl;have HPA0:=Aa (HPA.out.below hbl);have y0:=Ax hbl z0;have y1:=Ax hbl z1;have y2:=Ax hbl z2;have y3:=Ax hbl z3;have y4:=Ax hbl z4;have hnr:=Qw (sa:Int) o.secs ql;have hm41:m≤41:=by have:=HML.out;omega
   have hng:=Rk (sa:Int) o.groups sg o.sig;have hgl:=HL.out.ngrp;have HPO2:Hid (Ci o=pd++relPs sa o.secs ql++groupPs sa o.groups sg o.sig++symPs sa o.syms):=Aa (by rw[HPO.out,HPD.out]);clear hbl hb HR0 HG0 kk1 kk2 z0 z1 z2 z3 z4 HPA hown HPO HPD;have HRR:=Aa (HR.out (sa:Int));have HGG:=Aa (HG.out (sa:Int));clear HR HG;generalize relPs (sa:Int) o.secs ql=rps at*;generalize groupPs (sa:Int) o.groups sg o.sig=gps at*;have hys:(symPs (sa:Int) o.syms).length=2:=rfl;have HYS:=Aa hys;have HYY:=Aa (HY.out (sa:Int) ⟨by omega,by omega⟩);clear hys HY;generalize symPs (sa:Int) o.syms=yps at*;generalize wc=ww0 at*;go_wp2_with fail
   refine(HRR.out _ hbb0).mono ?_;rintro e wq ⟨vq,pvqa,rfl,howq,hpaq,hbbq⟩;have hown1:=Bd hown0 hbbq;have hbq:Below W1.heap.size W1 wq:=hbb0.trans (hbbq.mono hbs0);have hltq:=fun g hg=>(hown0.lt g hg).2;have hocq:=hpaq.oneCell (q:=true);have HOC:=Aa hocq;have x0:=Ax hbbq y0;have x1:=Ax hbbq y1;have x2:=Ax hbbq y2;have x3:=Ax hbbq y3;have x4:=Ax hbbq y4;clear hocq y0 y1 y2 y3 y4 hown0 hbb0;go_wp2_with (at_builtin;refine Jd _ rfl (.tmp 61) (.tmp 64) 107 rfl W1.heap.size 106 i0 _ 12 120 Tryz.underlying107 HI.out H0.out H1.out H2.out rfl (by decide) _ m _ rfl hown1 _ rps.length _ rfl _ howq HOC.out (by unfold maxLen;omega) (by omega) hbq.size ?_)
   intro vA wA hownA hgA hatA;have HP:=Aa (Tg HPA0.out hbbq hpaq hltq hownA (by rw[HM.out]) hgA hatA);have hbA:Below W1.heap.size W1 wA:=hbq.grown hgA hbq.size (fun g hg=>(hown1.lt g hg).1);have q0:=hgA.cell x0 (Fo hown1 hgs2);have q1:=hgA.cell x1 (Fo hown1 hgs2);have q2:=hgA.cell x2 (Fo hown1 hgs2);have q3:=hgA.cell x3 (Fo hown1 hgs2);have q4:=hgA.cell x4 (Fo hown1 hgs2);clear x0 x1 x2 x3 x4 howq hpaq hbbq hownA hgA hatA hown1 hltq HPA0 HOC hbq;have hbsA:=hbA.size;have hmp:pd.length≤41:=by have:=HM.out;omega
   go_wp2_with fail
   refine(HGG.out _ hbA).mono ?_;rintro e wq ⟨vq,pvqb,rfl,howq,hpaq,hbbq⟩;have hown1:=Bd HP.out.1 hbbq;have hbq:Below W1.heap.size W1 wq:=hbA.trans (hbbq.mono hbsA);have hltq:=fun g hg=>(HP.out.1.lt g hg).2;have hocq:=hpaq.oneCell (q:=true);have HOC:=Aa hocq;have y0:=Ax hbbq q0;have y1:=Ax hbbq q1;have y2:=Ax hbbq q2;have y3:=Ax hbbq q3;have y4:=Ax hbbq q4;clear hocq q0 q1 q2 q3 q4 hbA;go_wp2_with (at_builtin;refine Jd _ rfl (.tmp 66) (.tmp 69) 107 rfl W1.heap.size 106 i0 _ 12 120 Tryz.underlying107 HI.out H0.out H1.out H2.out rfl (by decide) _ _ _ rfl hown1 _ gps.length _ rfl _ howq HOC.out (by simp;unfold maxLen;omega) (by simp;omega) hbq.size ?_)
   intro vB wB hownA hgA hatA;have HP2:=Aa (Tg HP.out.2 hbbq hpaq hltq hownA (by simp) hgA hatA);have hbB:Below W1.heap.size W1 wB:=hbq.grown hgA hbq.size (fun g hg=>(hown1.lt g hg).1);have hbsB:=hbB.size;have q0:=hgA.cell y0 (Fo hown1 hgs2);have q1:=hgA.cell y1 (Fo hown1 hgs2);have q2:=hgA.cell y2 (Fo hown1 hgs2);have q3:=hgA.cell y3 (Fo hown1 hgs2);have q4:=hgA.cell y4 (Fo hown1 hgs2);clear y0 y1 y2 y3 y4 howq hpaq hbbq hownA hgA hatA hown1 hltq HP HOC hbq;go_wp2_with fail
   refine(HYY.out _ hbB).mono ?_;rintro e wq ⟨vq,pvqc,rfl,howq,hpaq,hbbq⟩;have hown1:=Bd HP2.out.1 hbbq;have hbq:Below W1.heap.size W1 wq:=hbB.trans (hbbq.mono hbsB);have hltq:=fun g hg=>(HP2.out.1.lt g hg).2;have hocq:=hpaq.oneCell (q:=true);have HOC:=Aa hocq;clear hocq q0 q1 q2 q3 q4 hbB;rw[HYS.out]at howq;go_wp2_with (at_builtin;refine Jd _ rfl (.tmp 71) (.tmp 74) 107 rfl W1.heap.size 106 i0 _ 12 120 Tryz.underlying107 HI.out H0.out H1.out H2.out rfl (by decide) _ _ _ rfl hown1 _ 2 _ rfl _ howq HOC.out (by simp;unfold maxLen;omega) (by simp;omega) hbq.size ?_)
   intro vC wC hownA hgA hatA;rw[←List.append_assoc,←Nat.add_assoc]at hownA;have hnn:pd.length+rps.length+gps.length+2=(pd++rps++gps).length+yps.length:=by rw[List.length_append,List.length_append,HYS.out]
   have HP3:=Aa (Tg HP2.out.2 hbbq hpaq hltq hownA hnn hgA hatA);have hbC:Below W1.heap.size W1 wC:=hbq.grown hgA hbq.size (fun g hg=>(hown1.lt g hg).1);clear howq hpaq hbbq hownA hgA hatA hown1 hltq HP2 HOC hbq;have HP4:Hid (wC.ownsRow W1.heap.size 106 12 vC (Ci o).length (pvs true (pv++pvqa++pvqb++pvqc))∧Bf wC (fun b=>0≤b∧some b≠vC.ownBlock) (pv++pvqa++pvqb++pvqc) (Ci o)):=Aa (by rw[HPO2.out];exact HP3.out);have hLn:=Hy o;rw[hsa]at hLn;have HMB:=Aa (Oz HL.out);generalize pv++pvqa++pvqb++pvqc=pvp at*;generalize hnp:(Ci o).length=np at*;have HNP:=Aa hnp;have hnp2:np≤124:=by omega
   have hnp3:2≤np:=by omega
   have hrow:=HP4.out.1;obtain⟨pC,cC,rfl,_,_,_⟩:=Bl hrow;have HRW:=Aa HP4.out.1;have HPT:=Aa HP4.out.2;have HWC:Hid (Below w.heap.size w wC):=Aa (HB1.out.trans (hbC.mono (by omega)));have hwcs:=hbC.size;clear hrow HP4 hnp hLn HP3 hnn HRR HGG HYY HM HML HPO2 HAT2 hbC HMB;have hnq:Bh (Ci o)=((Ci o).map Bk.name++ [Gz]).map lst:=by unfold Bh;simp
   have hnl:((Ci o).map Bk.name).length=np:=by rw[List.length_map,HNP.out]
   have hnk:∀(k:Nat)(y:Bk),(Ci o)[k]?=some y→((Ci o).map Bk.name)[k]?=some y.name:=fun k y h=>by rw[List.getElem?_map,h];rfl
   have hnmb:∀x∈(Ci o).map Bk.name++ [Gz],mayB (lst x)=true:=fun x hx=>by
    have:=Mz HL.out (lst x) (by rw[hnq];exact List.mem_map.2 ⟨x,hx,rfl⟩);exact this
   generalize (Ci o).map Bk.name=nms at*;have HNQ:=Aa hnq;have HNL:=Aa hnl;have HNK:=Aa hnk;have HNMB:=Aa hnmb;clear hnq hnl hnk hnmb;obtain⟨j0,hj,hj0,hj1,hj2⟩:=info_parts Tryz.infoStr;have JI:=Aa hj;have J0:=Aa hj0;have J1:=Aa hj1;have J2:=Aa hj2;clear hj hj0 hj1 hj2;go_wp2_with fail
   go_loopw [7,8] (fun r7 r8 wr=>∃(k:Nat),k≤np∧r8= .int .i64 (k:Int)∧wr.ownsRow wC.heap.size 9 1 r7 k ((nms.take k).map Value.string)∧Below wC.heap.size wC wr) (fun _ r8 _=>np - (intOf r8).toNat)
   case atStart=>exact⟨0,Ak _,rfl,Aq _ _ _ _,Ag _ _⟩
   case round=>
    obtain⟨k,hk,rfl,hown,hb⟩:=hrel;by_cases hlt:k < np
    ·obtain⟨g,p,y,rfl,hyk,hph,hpn,hps,hcl⟩:=Zw HRW.out HPT.out HNP.out hlt;have d10:wC.cell? ⟨g,k*12+10,none⟩=some (.string y.name):=(hcl 10 (by omega)).trans (by rw[←hpn];rfl);have e10:=Ax hb d10;have hst:nms.take (k+1)=nms.take k++ [y.name]:=by rw[List.take_add_one,HNK.out k y hyk];rfl
     have HST:=Aa hst;have hJ:(k:Int) < (np:Int):=by omega
     have k2:(0:Int)≤(k:Int):=by omega
     have hbs:=hb.size;clear hyk hph hpn hps hcl d10 hst;go_wp2_with (at_builtin;refine wpList_append_own _ rfl (.tmp 82) (.tmp 88) 109 rfl wC.heap.size 9 j0 _ 1 16 Tryz.underlying109 JI.out J0.out J1.out J2.out rfl (by decide) _ k _ rfl (hown.alloc _) ⟨wr.heap.size,0,none⟩ 1 1 [.string y.name] rfl rfl (cell_one_new wr _ _) (Pw _) (by unfold maxLen;omega) (by omega) (by simp;omega) ?_)
     intro v3 w4 hown4 hg4 _;have hb4:Below wC.heap.size wC w4:=(hb.alloc hb.size _).grown hg4 (by simp;omega) (fun g hg=>(hown.lt g hg).1);have hown5:w4.ownsRow wC.heap.size 9 1 v3 (k+1) ((nms.take (k+1)).map Value.string):=by
      rw[HST.out,List.map_append,List.map_take];exact hown4
     clear hown hg4 hb hown4;go_wp2_with fail
     go_roundw
     case rel=>exact⟨k+1,hlt,by go_num,hown5,hb4⟩
     case measure=>simp[intOf];omega
    ·obtain rfl:k=np:=by omega
     have hJ:¬(k:Int) < (k:Int):=by omega
     have hE:Hid (nms.take k=nms):=Aa (List.take_of_length_le (by rw[HNL.out];exact Af _));rw[hE.out]at hown;have hbs:=hb.size;clear hE;go_wp2_with (at_builtin;refine wpList_append_own _ rfl (.tmp 90) (.tmp 91) 109 rfl wC.heap.size 9 j0 _ 1 16 Tryz.underlying109 JI.out J0.out J1.out J2.out rfl (by decide) _ k _ rfl (hown.alloc _) ⟨wr.heap.size,0,none⟩ 1 1 [.string Gz] rfl rfl (cell_one_new wr _ _) (Pw _) (by unfold maxLen;omega) (by omega) (by simp;omega) ?_)
     intro v3 w4 hown4 hg4 _;have hb4:Below wC.heap.size wC w4:=(hb.alloc hb.size _).grown hg4 (by simp;omega) (fun g hg=>(hown.lt g hg).1);rw[Sm]at hown4;obtain⟨p5,c5,rfl,n1,n2,n3,hns⟩:=Rl.of_owns hown4;have HMK:=Aa (Ux p5 (k+1) c5 _ _ hns n3 (by omega) HNMB.out);rw[←HNQ.out]at HMK;have hb4s:=hb4.size;clear hown hg4 hb hns n1 n2 n3 hown4;go_wp2_with fail
     refine HMK.out.mono ?_;rintro e wm ⟨t1,t2,rfl,ht,hpl,hbm⟩;have hbC2:Below wC.heap.size wC wm:=hb4.trans (hbm.mono hb4s);have hbC2s:=hbC2.size;have hrow5:=Bd HRW.out hbC2;have HPT5:=Aa (HPT.out.below hbC2);have hpll:(placesOf (Bh (Ci o))).length=k+1:=by rw[Gb,Eu,HNP.out]
     rw[hpll]at hpl;have hltl:=fun g hg=>(hrow5.lt g hg)
     have hltC:=fun g hg=>(HRW.out.lt g hg).2;obtain⟨p9,c9,rfl,_,_,_,_⟩:=Has.of_owns ht
     have hsl:Bf wm (fun b=>0≤b∧some b≠(Value.slice pC k cC).ownBlock) [⟨Dc,Vc,(.slice p9 (Cj (Bh (Ci o))).tb.length c9)⟩] [Mn (Bh (Ci o))]:=Bf.one (SlB.of_owns ht fun b hb=>by
      have h1:=(ht.lt b hb).1
      exact⟨by omega,fun e=>by have:=hltC b e.symm;omega⟩)
     have h1c:∀u∈PV.cells true ⟨Dc,Vc,(.slice p9 (Cj (Bh (Ci o))).tb.length c9)⟩,u.oneCell'=true:=fun u hu=>(hsl.oneCell (q:=true)) u (by simpa[pvs]using hu);have H1C:=Aa h1c;have HSL:=Aa hsl;have HT:=Aa ht;have HBM:Hid (Below w.heap.size w wm):=Aa (HWC.out.trans (hbC2.mono (by have:=HWC.out.size;omega)));have HNSL:Hid ((Cj (Bh (Ci o))).tb.length≤330001):=Aa (Mv _ (by rw[Eu,HNP.out];omega) (Mz HL.out));clear hsl h1c ht hpll;generalize hns9:Bh (Ci o)=ns at*;generalize (Cj ns).tb.length=tl at*;go_wp2_with (at_builtin;refine wpList_append_own_at _ rfl (.tmp 98) (.tmp 102) 107 rfl W1.heap.size 106 i0 _ 12 120 Tryz.underlying107 HI.out H0.out H1.out H2.out rfl (by decide) _ k _ rfl (hrow5.alloc _) ⟨wm.heap.size,0,none⟩ 1 1 (PV.cells true ⟨Dc,Vc,(.slice p9 tl c9)⟩) rfl rfl (Fi wm _ _) H1C.out (by unfold maxLen;omega) (by omega) (by simp;omega) ?_)
     intro vD wD hown6 hg6 _ hat6;have HP:=Aa (Jf HPT5.out HSL.out (by rw[HNP.out];exact hown6) hg6 hat6);have hplD:wD.ownsRow w4.heap.size 3 1 t2 (k+1) (Hh (placesOf ns)):=(hpl.alloc _).kept hg6 (Jkl hpl fun b hb=>by have:=hltC b hb;omega);have hbD:Below W1.heap.size wm wD:=((Ag _ wm).mono (by omega) |>.alloc (by omega) _).grown hg6 (by simp;omega) (fun g hg=>(hrow5.lt g hg).1);have HBD:Hid (Below w.heap.size w wD):=Aa (HBM.out.trans (hbD.mono (by omega)));clear hown6 hg6 hat6 hpl hbD hrow5 hltl hltC HSL HPT5;have hal:allOf o=Ci o++ [Mn ns]:=by unfold allOf;rw[hns9]
     rw[←hal]at HP;have hall:(allOf o).length=k+1:=by rw[hal,List.length_append,HNP.out];rfl
     rw[hall]at HP;have HRD:=Aa HP.out.1;have HPD9:=Aa HP.out.2;have hrd:=HP.out.1;have HALL:=Aa hall;have hbe:=Pq o;rw[hns9,hall]at hbe;have HBE:=Aa hbe;have hmy:=fun i p h=>Jkm HL.out i p h;rw[hns9]at hmy;have hple:=fun i p h=>Jal HL.out i p h;rw[hns9]at hple;have HMY:=Aa hmy;have HPLE:=Aa hple;have HBT:=Aa fun i=>Rc HL.out i;have hpln:(placesOf ns).length=k+1:=by have:=hplD.1;simp[Hh]at this;simpa using this
     have HPLN:=Aa hpln;obtain⟨pD,cD,rfl,_,_,_⟩:=Bl hrd;clear HP hrd hal hall hbe hmy hple hpln HMK HNQ HNL HNK HNMB HRW HPT HNP HWC HBM HT HNSL HYS H1C;generalize allOf o=al at*;generalize placesOf ns=pls at*;obtain⟨i1,gi,gz0,gz1,gz2⟩:=info_parts Tryz.infoU8;have GI:=Aa gi;have G0:=Aa gz0;have G1:=Aa gz1;have G2:=Aa gz2;clear gi gz0 gz1 gz2;go_wp2_with fail
     go_loopw [11,12,13] (fun r11 r12 r13 wr=>∃(i nb nh:Nat),i≤k+1∧r13= .int .i64 (i:Int)∧nb=(Cn (al.take i)).length∧nh=64*i∧wr.ownsRow wD.heap.size 5 1 r11 nb ((Cn (al.take i)).map u8v)∧wr.ownsRow wD.heap.size 5 1 r12 nh ((Ip pls al i).map u8v)∧(∀b,r11.ownBlock=some b→r12.ownBlock≠some b)∧Below wD.heap.size wD wr) (fun _ _ r13 _=>k+1 - (intOf r13).toNat)
     case atStart=>exact⟨0,0,0,Ak _,rfl,rfl,rfl,Aq _ _ _ _,Aq _ _ _ _,(fun b h=>by cases h),Ag _ _⟩
     case round=>
      obtain⟨i,nb,nh,hi,rfl,hnb,hnh,hob,hoh,hne,hb⟩:=hrel;have HNB:=Aa hnb;have HNH:=Aa hnh;have HNE:=Aa hne;have hnbl:nb≤50000000:=by rw[hnb];exact HBT.out i
      clear hnb hnh hne;by_cases hlt:i < k+1
      ·obtain⟨g,p,y,rfl,hyk,hph,hpn,hps,hcl⟩:=Zw HRD.out HPD9.out HALL.out hlt;obtain⟨pb,cb,hpv,b1,b2,b3,b4⟩:=hps.has;have hc0:wD.cell? ⟨g,i*12,none⟩=some (.int .i64 y.h.a):=by have:=hcl 0 (by omega);rw[Nat.add_zero]at this;rw[this,←hph];rfl
       have hc1:wD.cell? ⟨g,i*12+1,none⟩=some (.int .i64 y.h.b):=by rw[hcl 1 (by omega),←hph];rfl
       have hc2:wD.cell? ⟨g,i*12+2,none⟩=some (.int .i64 y.h.c):=by rw[hcl 2 (by omega),←hph];rfl
       have hc3:wD.cell? ⟨g,i*12+3,none⟩=some (.int .i64 y.h.d):=by rw[hcl 3 (by omega),←hph];rfl
       have hc4:wD.cell? ⟨g,i*12+4,none⟩=some (.int .i64 y.h.e):=by rw[hcl 4 (by omega),←hph];rfl
       have hc5:wD.cell? ⟨g,i*12+5,none⟩=some (.int .i64 y.h.f):=by rw[hcl 5 (by omega),←hph];rfl
       have hc6:wD.cell? ⟨g,i*12+6,none⟩=some (.int .i64 y.h.g):=by rw[hcl 6 (by omega),←hph];rfl
       have hc7:wD.cell? ⟨g,i*12+7,none⟩=some (.int .i64 y.h.h):=by rw[hcl 7 (by omega),←hph];rfl
       have hc8:wD.cell? ⟨g,i*12+8,none⟩=some (.int .i64 y.h.i):=by rw[hcl 8 (by omega),←hph];rfl
       have hc9:wD.cell? ⟨g,i*12+9,none⟩=some (.int .i64 y.h.j):=by rw[hcl 9 (by omega),←hph];rfl
       have hc11:wD.cell? ⟨g,i*12+11,none⟩=some (.slice pb y.b.length cb):=by rw[hcl 11 (by omega),←hpv];rfl
       obtain⟨pB,cB,rfl,_,_,_⟩:=Bl hob;have e0:=Ax hb hc0;have e1:=Ax hb hc1;have e2:=Ax hb hc2;have e3:=Ax hb hc3;have e4:=Ax hb hc4;have e5:=Ax hb hc5;have e6:=Ax hb hc6;have e7:=Ax hb hc7;have e8:=Ax hb hc8;have e9:=Ax hb hc9;have e11:=Ax hb hc11;clear hc0 hc1 hc2 hc3 hc4 hc5 hc6 hc7 hc8 hc9 hc11 hcl hph hpn hps hpv;obtain⟨g2,c2,cur2,rfl,_,_,_,hgc,hgm,_,_⟩:=Oo hplD (by omega);have hplx:=Bd hplD hb;obtain⟨q,hq⟩:∃q,pls[i]?=some q:=⟨_,Ae (by rw[HPLN.out];exact hlt)⟩
       have hpc:wr.cell? ⟨g2,i,none⟩=some (.int .i64 (q:Int)):=by
        rw[hplx.cellAt i (by omega)];simp only[Hh,List.getElem?_map,hq];rfl
       have hht:Qj pls i (Cn (al.take i)).length y=⟨(q:Int),y.h.b,y.h.c,y.h.d,if i=0 then y.h.e else 64+(nb:Int),if i=0∨y.h.b=8 then y.h.f else(y.b.length:Int),y.h.g,y.h.h,y.h.i,y.h.j⟩:=by
        unfold Qj;rw[←HNB.out,List.getD_eq_getElem?_getD,hq];rfl
       have hmi:=HMY.out i y hyk;have hsu:=Un (pl:=pls) hyk;have hbsu:Cn (al.take (i+1))=Cn (al.take i)++y.b:=by rw[List.take_add_one,hyk];exact Vo _ _
       rw[hht]at hmi hsu;generalize hE4:(if i=0 then y.h.e else 64+(nb:Int))=E4 at*;generalize hE5:(if i=0∨y.h.b=8 then y.h.f else(y.b.length:Int))=E5 at*;have HC:=Aa fun W=>Jbq ⟨(q:Int),y.h.b,y.h.c,y.h.d,E4,E5,y.h.g,y.h.h,y.h.i,y.h.j⟩ W hmi;have hsl64:=Nj ⟨(q:Int),y.h.b,y.h.c,y.h.d,E4,E5,y.h.g,y.h.h,y.h.i,y.h.j⟩;have hybl:(y.b).length≤50000000:=by
        have:=HBT.out (i+1);rw[hbsu,List.length_append]at this;omega
       generalize sectB ⟨(q:Int),y.h.b,y.h.c,y.h.d,E4,E5,y.h.g,y.h.h,y.h.i,y.h.j⟩=sb at*;have HSU:=Aa hsu;have HBSU:=Aa hbsu;have HSB:=Aa hsl64;have HE4:=Aa hE4;have HE5:=Aa hE5;have HYB:=Aa b4;have HYN:=Aa b3;have hJ:(i:Int) < (k:Int)+1:=by omega
       have k2:(0:Int)≤(i:Int):=by omega
       have hba:Below wr.heap.size wr (wr.alloc (.cells #[.int .i64 y.h.a,.int .i64 y.h.b,.int .i64 y.h.c,.int .i64 y.h.d,.int .i64 y.h.e,.int .i64 y.h.f,.int .i64 y.h.g,.int .i64 y.h.h,.int .i64 y.h.i,.int .i64 y.h.j] 104)):=(Ag _ wr).alloc (Af _) _;have hha:=Dd wr (.cells #[.int .i64 y.h.a,.int .i64 y.h.b,.int .i64 y.h.c,.int .i64 y.h.d,.int .i64 y.h.e,.int .i64 y.h.f,.int .i64 y.h.g,.int .i64 y.h.h,.int .i64 y.h.i,.int .i64 y.h.j] 104);have hpa:=Ax hba hpc;have f11:=Ax hba e11;generalize hybn:y.b.length=bn at*;have HYBN:=Aa hybn;clear hplx hq hht hmi hsu hbsu hsl64 hE4 hE5 b3 b4 hpc hyk hybn;go_upto_region 25 with fail
       generalize wr.alloc (.cells #[.int .i64 y.h.a,.int .i64 y.h.b,.int .i64 y.h.c,.int .i64 y.h.d,.int .i64 y.h.e,.int .i64 y.h.f,.int .i64 y.h.g,.int .i64 y.h.h,.int .i64 y.h.i,.int .i64 y.h.j] 104)=wh at*;obtain⟨x0,x1,x2,x3,x4,x5,x6,x7,x8,x9⟩:=Ms _ _ _ _ _ _ _ _ _ _ _ _ _ hha;have hfz:=Ap _ _ 0 _ _ hha;have hst:=An wh wr.heap.size 0 _ _ (.int .i64 (q:Int)) hha;have hbst:Below wr.heap.size wr (wh.setCell ⟨wr.heap.size,0,none⟩ (.int .i64 (q:Int))):=hba.setCell (Af _) _;have g11:=Ax hbst e11;have hst2:(wh.setCell ⟨wr.heap.size,0,none⟩ (.int .i64 (q:Int))).heap[wr.heap.size]?=some (.cells #[.int .i64 (q:Int),.int .i64 y.h.b,.int .i64 y.h.c,.int .i64 y.h.d,.int .i64 y.h.e,.int .i64 y.h.f,.int .i64 y.h.g,.int .i64 y.h.h,.int .i64 y.h.i,.int .i64 y.h.j] 104 (0,0)):=hst;clear e0 e1 e2 e3 e4 e5 e6 e7 e8 e9 hst hba f11;go_upto_region 26 with fail
       generalize wh.setCell ⟨wr.heap.size,0,none⟩ (.int .i64 (q:Int))=wi at*;clear hha x0 x1 x2 x3 x4 x5 x6 x7 x8 x9 hfz hpa;have kw:IntKind.i64.wrap (64+(nb:Int))=64+(nb:Int):=Al _ (by omega);have hfz4:=Ap _ _ 4 _ _ hst2;have hv4:=(Ms _ _ _ _ _ _ _ _ _ _ _ _ _ hst2).2.2.2.2.1;go_upto_if 121 with fail;go_cut [] (fun wx=>Below wr.heap.size wr wx∧wx.heap[wr.heap.size]?=some (.cells #[.int .i64 (q:Int),.int .i64 y.h.b,.int .i64 y.h.c,.int .i64 y.h.d,.int .i64 E4,.int .i64 y.h.f,.int .i64 y.h.g,.int .i64 y.h.h,.int .i64 y.h.i,.int .i64 y.h.j] 104 (0,0)))
       case first=>
        by_cases hp0:0 < i
        ·have hI:(0:Int) < (i:Int):=by omega
         have hE:Hid (E4=64+(nb:Int)):=Aa (by rw[←HE4.out,if_neg (by omega)]);have hst:=An wi wr.heap.size 4 _ _ (.int .i64 (64+(nb:Int))) hst2;have hbs4:Below wr.heap.size wr (wi.setCell ⟨wr.heap.size,4,none⟩ (.int .i64 (64+(nb:Int)))):=hbst.setCell (Af _) _;have HST:=Aa hst;have HBS:=Aa hbs4;clear hp0 hst hbs4;go_wp2_with fail
         go_meet;rw[hE.out];exact⟨HBS.out,HST.out⟩
        ·have hI:¬(0:Int) < (i:Int):=by omega
         have hE:Hid (E4=y.h.e):=Aa (by rw[←HE4.out,if_pos (by omega)]);clear hp0;go_wp2_with fail
         go_meet;rw[hE.out];exact⟨hbst,hst2⟩
       case rest=>
        obtain⟨hbx,hhx⟩:=hcut;clear hbst hst2 g11 hfz4 hv4;generalize wc=wx at*;have m11:=Ax hbx e11;obtain⟨_,n1,_,_,_,_,_,_,_,_⟩:=Ms _ _ _ _ _ _ _ _ _ _ _ _ _ hhx;have hfz5:=Ap _ _ 5 _ _ hhx;have n5:=(Ms _ _ _ _ _ _ _ _ _ _ _ _ _ hhx).2.2.2.2.2.1;generalize hcd:(decide (0 < i)&& !decide (y.h.b=8))=cnd at*;have hE5:=Jp1 hcd HE5.out;have HE5b:=Aa hE5;have HCD:=Aa hcd;clear hE5 hcd HE5;go_upto_region 28 with fail
        go_cut [132] (fun s132 wz=>s132= .bool cnd∧wx=wz)
        case first=>
         by_cases hp0:0 < i
         ·have hI:(0:Int) < (i:Int):=by omega
          have hd1:decide ((0:Int) < (i:Int))=true:=Aj hI;by_cases h8:y.h.b=8
          ·have h8b:Hid ((y.h.b != 8)=false):=Aa (by simp[h8]);have hE:Hid (cnd=false):=Aa (by rw[←HCD.out];simp[h8]);clear h8 hp0;go_wp2_with fail
           go_meet;exact⟨by rw[hE.out,h8b.out],rfl⟩
          ·have h8b:Hid ((y.h.b != 8)=true):=Aa (by simp[h8]);have hE:Hid (cnd=true):=Aa (by rw[←HCD.out];simp[h8,hp0]);clear h8 hp0;go_wp2_with fail
           go_meet;exact⟨by rw[hE.out,h8b.out],rfl⟩
         ·have hI:¬(0:Int) < (i:Int):=by omega
          have hd1:decide ((0:Int) < (i:Int))=false:=Ai hI;have hE:Hid (cnd=false):=Aa (by rw[←HCD.out];simp;omega);clear hp0;go_wp2_with fail
          go_meet;exact⟨by rw[hE.out],rfl⟩
        case rest=>
         obtain⟨rfl,rfl⟩:=hcut;have hcm:=hbx.size;go_upto_if 132 with fail;go_cut [] (fun wz=>Below wr.heap.size wr wz∧wz.heap[wr.heap.size]?=some (.cells #[.int .i64 (q:Int),.int .i64 y.h.b,.int .i64 y.h.c,.int .i64 y.h.d,.int .i64 E4,.int .i64 E5,.int .i64 y.h.g,.int .i64 y.h.h,.int .i64 y.h.i,.int .i64 y.h.j] 104 (0,0)))
         case first=>
          cases cnd with
          |true=>
           have hE:Hid (E5=(bn:Int)):=HE5b;have hst:=An wx wr.heap.size 5 _ _ (.int .i64 (bn:Int)) hhx;have hbs4:Below wr.heap.size wr (wx.setCell ⟨wr.heap.size,5,none⟩ (.int .i64 (bn:Int))):=hbx.setCell (Af _) _;have HST:=Aa hst;have HBS:=Aa hbs4;clear hst hbs4;go_wp2_with fail
           go_meet;rw[hE.out];exact⟨HBS.out,HST.out⟩
          |false=>
           have hE:Hid (E5=y.h.f):=HE5b;go_wp2_with fail
           go_meet;rw[hE.out];exact⟨hbx,hhx⟩
         case rest=>
          obtain⟨hbz,hhz⟩:=hcut;clear hbx hhx n1 n5 hfz5 m11 HE5b HCD hcm;generalize wc=wz at*;have m11:=Ax hbz e11;have hbD9:Below wD.heap.size wD wz:=hb.trans (hbz.mono hb.size);have HYZ:=Aa (HYB.out.below hbD9);have hob2:=Bd hob hbz;have hoh2:=Bd hoh hbz;have hbzs:=hbz.size;have hlob:=fun b hb=>(hob.lt b hb)
          have hloh:=fun b hb=>(hoh.lt b hb)
          have hhl:wr.heap.size < wz.heap.size:=(Ac.1 hhz).1;have hnD:=hbD9.size;clear hob hoh;go_wp2_with (at_builtin;refine Cd _ rfl (.tmp 140) (.tmp 145) 31 rfl wD.heap.size 5 i1 Tryz.underlying31 GI.out G0.out G1.out G2.out _ nb _ rfl hob2 pb bn cb y.b rfl HYZ.out HYBN.out HYN.out (by omega) hnD ?_)
          intro vE wE hobE hgE hatE;have hohE:=hoh2.kept hgE (Jcc HNE.out);have hneE:=Jcr HNE.out (fun b hb=>(hoh2.lt b hb).2) hatE;have hhE:wE.heap[wr.heap.size]?=some (.cells #[.int .i64 (q:Int),.int .i64 y.h.b,.int .i64 y.h.c,.int .i64 y.h.d,.int .i64 E4,.int .i64 E5,.int .i64 y.h.g,.int .i64 y.h.h,.int .i64 y.h.i,.int .i64 y.h.j] 104 (0,0)):=(hgE.block wr.heap.size hhl fun e=>by have:=(hlob wr.heap.size e.symm).2;omega).trans hhz;have hbE:Below wD.heap.size wD wE:=hbD9.grown hgE hnD (fun g hg=>(hob2.lt g hg).1);rw[←List.map_append,←HBSU.out]at hobE;obtain⟨t0,t1,t2',t3,t4,t5,t6,t7,t8,t9⟩:=Ms _ _ _ _ _ _ _ _ _ _ _ _ _ hhE;have HNEE:=Aa hneE;clear hob2 hoh2 hgE hatE hneE hhz hhE hlob hloh;go_wp2_with fail
          refine(HC.out _).mono ?_;rintro e wF ⟨vF,rfl,hownF,hbbF⟩;rw[HSB.out]at hownF;have hobF:=Bd hobE hbbF;have hohF:=Bd hohE hbbF;have hbF:Below wD.heap.size wD wF:=hbE.trans (hbbF.mono hbE.size);obtain⟨p8,c8,rfl,_,_,y3,y4⟩:=Has.of_owns hownF;have hpn8:=Fv hownF;have Y4:=Aa y4;have Y3:=Aa y3;have hnh9:nh≤10000:=by have:=HNH.out;omega
          have hbFs:=hbF.size;clear hownF hbbF hobE hohE hbE y3 y4 t0 t1 t2' t3 t4 t5 t6 t7 t8 t9;go_wp2_with (at_builtin;refine Cd _ rfl (.tmp 147) (.tmp 149) 31 rfl wD.heap.size 5 i1 Tryz.underlying31 GI.out G0.out G1.out G2.out _ nh _ rfl hohF p8 64 c8 sb rfl Y4.out Y3.out hpn8 (by omega) hbFs ?_)
          intro vG wG hohG hgG hatG
          have hobG:=hobF.kept hgG (by
           rcases Jcc HNEE.out with h|h
           ·cases hE:vE.ownBlock with
            |none=>exact .inl rfl
            |some b=>rw[h];exact .inr (fun e=>by cases e)
           ·exact .inr fun e=>h e.symm)
          have HNEG:=Aa (Jcp HNEE.out (fun b hb=>(hobF.lt b hb).2) hatG);have hbG:Below wD.heap.size wD wG:=hbF.grown hgG hbFs (fun g hg=>(hohF.lt g hg).1);rw[←List.map_append,←HSU.out]at hohG;have hbln:nb+bn=(Cn (al.take (i+1))).length:=by rw[HBSU.out,List.length_append,←HNB.out,HYBN.out]
          have HBLN:=Aa hbln;clear hobF hohF hgG hatG hbln;go_wp2_with fail
          go_roundw
          case rel=>exact⟨i+1,nb+bn,nh+64,by omega,by go_num,HBLN.out,by have:=HNH.out;omega,hobG,hohG,HNEG.out,hbG⟩
          case measure=>simp[intOf];omega
      ·obtain rfl:i=k+1:=by omega
       have hJ:¬((k+1:Nat):Int) < (k:Int)+1:=by omega
       have hE:Hid (al.take (k+1)=al):=Aa (List.take_of_length_le (by rw[HALL.out];exact Af _));rw[hE.out]at hob;have hnb2:nb=(Cn al).length:=by rw[HNB.out,hE.out]
       have HNB2:=Aa hnb2;obtain⟨pB,cB,rfl,_,_,k3,hB⟩:=Has.of_owns hob;obtain⟨pH,cH,rfl,_,_,k4,hH⟩:=Has.of_owns hoh;have hpnB:=Fv hob;have hpnH:=Fv hoh;have HBG:=Aa fun W=>Jlg (64+nb) (k+1) k W ⟨by omega,by omega,by omega,by omega,by omega,by omega⟩;have hbT:Below w.heap.size w wr:=HBD.out.trans (hb.mono HBD.out.size);have hbTs:=hbT.size;have kw:IntKind.i64.wrap (64+(nb:Int))=64+(nb:Int):=Al _ (by omega);have kk:IntKind.i64.wrap ((k:Int)+1 - 1)=(k:Int):=by rw[show(k:Int)+1 - 1=(k:Int) by omega];exact Al _ (by omega)
       have hpu:((64+nb:Nat):Int)=64+(nb:Int):=by omega
       have hpk:((k+1:Nat):Int)=(k:Int)+1:=by omega
       rw[hpu,hpk]at HBG;have HB9:=Aa hB;have HH9:=Aa hH;have HKB:=Aa k3;have HKH:=Aa k4;have hnh9:nh≤10000:=by have:=HNH.out;omega
       clear hnb2 hB hH hob hoh hb hpu hpk k3 k4 HNE;go_wp2_with fail
       refine(HBG.out _).mono ?_;rintro e wO ⟨vO,rfl,hownO,hbbO⟩;rw[Mf]at hownO;have hbO:Below w.heap.size w wO:=hbT.trans (hbbO.mono hbTs);have hbOs:=hbbO.size;have HBO:=Aa (HB9.out.below hbbO);have hbgr:=fun b hb=>(hownO.lt b hb).1;have HHO:=Aa (HH9.out.below hbbO);have hsep:Below wr.heap.size wr wO:=hbbO;generalize hdB:Nt (64+nb) (k+1) k=hd at*;have HDB:=Aa hdB;clear hdB hbbO;go_wp2_with (at_builtin;refine Cd _ rfl (.tmp 160) (.tmp 161) 31 rfl wr.heap.size 5 i1 Tryz.underlying31 GI.out G0.out G1.out G2.out _ 64 _ rfl hownO pB nb cB (Cn al) rfl HBO.out HKB.out hpnB (by omega) hbOs ?_)
       intro vP wP hownP hgP _;have hbP:Below wr.heap.size wr wP:=hsep.grown hgP hbOs (fun g hg=>(hownO.lt g hg).1);have HHP:=Aa (HH9.out.below hbP);have hbPs:=hbP.size;clear hownO hgP hsep;go_wp2_with (at_builtin;refine Cd _ rfl (.tmp 162) (.tmp 163) 31 rfl wr.heap.size 5 i1 Tryz.underlying31 GI.out G0.out G1.out G2.out _ (64+nb) (hd++Cn al) rfl (by rw[List.map_append];exact hownP) pH nh cH (Ip pls al (k+1)) rfl HHP.out HKH.out hpnH (by omega) hbPs ?_)
       intro vQ wQ hownQ hgQ _;have hbQ:Below wr.heap.size wr wQ:=hbP.grown hgQ hbPs (fun g hg=>(hownP.lt g hg).1);clear hgQ hownP;go_wp2_with fail
       go_ret;have hfin:bytesOf o=hd++Cn al++Ip pls al (k+1):=by rw[HBE.out,←HDB.out,HNB2.out];rfl
       have hlen:(bytesOf o).length=64+nb+nh:=by
        have:=hownQ.1;rw[hfin];simpa using this
       refine⟨vQ,rfl,?_,hbT.trans (hbQ.mono hbTs)⟩;rw[hlen,hfin,List.map_append,List.map_append,List.append_assoc];exact Cm hownQ hbTs
end Go.Proofs.YteopgmieindojaaGreat
