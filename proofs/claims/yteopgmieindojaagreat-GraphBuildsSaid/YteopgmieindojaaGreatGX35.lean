/- Parts of a proof. -/
import Derived.Test.YteopgmieindojaaGreatGX31
import Derived.Test.YteopgmieindojaaGreatGX34
import Derived.Test.YteopgmieindojaaGreatGX26
import Derived.Deep.CutBlock
import Derived.Laws.Closers25
import Derived.Test.YteopgmieindojaaGreatGX30
import Derived.Test.YteopgmieindojaaGreatGX04
import Derived.Test.YteopgmieindojaaGreatGX32
set_option maxRecDepth 1000000
set_option maxHeartbeats 8000000
namespace Go.Proofs.YteopgmieindojaaGreat
open Go.RowKit
theorem Jhb(o:Az)(v0 v1 v2 v4:Value)(w:World)(hp:Dn w v0 v1 v2 v4 o)(hs:Gn o):
 Calls Tryz.prog 10 #[Gq v0 v1 v2 o.hasSig v4] w fun e w'=>e= .returned (.bool (mayO o))∧Below w.heap.size w w':=by
 have hb1:Below w.heap.size w (w.alloc (.cells #[v0,v1,v2,.bool o.hasSig,v4] 27)):=(Ag _ w).alloc (Af _) _;have hpW:=hp.below hb1;have a0:(w.alloc (.cells #[v0,v1,v2,.bool o.hasSig,v4] 27)).cell? ⟨w.heap.size,0,none⟩=some v0:=by simp
 have a1:(w.alloc (.cells #[v0,v1,v2,.bool o.hasSig,v4] 27)).cell? ⟨w.heap.size,1,none⟩=some v1:=by simp
 have a2:(w.alloc (.cells #[v0,v1,v2,.bool o.hasSig,v4] 27)).cell? ⟨w.heap.size,2,none⟩=some v2:=by simp
 have a3:(w.alloc (.cells #[v0,v1,v2,.bool o.hasSig,v4] 27)).cell? ⟨w.heap.size,3,none⟩=some (.bool o.hasSig):=by simp
 have a4:(w.alloc (.cells #[v0,v1,v2,.bool o.hasSig,v4] 27)).cell? ⟨w.heap.size,4,none⟩=some v4:=by simp
 have hbd:=Jls hp;have HSH:=Aa fun W (hW:Dn W v0 v1 v2 v4 o)=>Jkd o v0 v1 v2 v4 W hW (by have:=hs.grps;omega) (fun g hg=>by have:=hs.mems g hg;omega);have HBY:=Aa fun W (hW:Dn W v0 v1 v2 v4 o)(hl:Ho o)=>Jdr o v0 v1 v2 v4 W hW hl;have hbl:Ho o→(bytesOf o).length≤100000000:=fun hl=>by
  have h1:=Rc hl ((allOf o).length);have h2:=Oc (placesOf (Bh (Ci o))) (allOf o) (allOf o).length (Af _);have h3:=Ng o;have h4:=Kn hl;rw[List.take_length]at h1;rw[Pq,List.length_append,List.length_append,Mf,h2];omega
 have hlay:shapeB o=true→Ho o:=fun h=>Yl h hs hbd;have hmo:mayO o=(shapeB o&&decide ((bytesOf o).length≤16384)):=rfl;generalize mayO o=res at*;generalize shapeB o=sb at*;have HMO:=Aa hmo;have HLAY:=Aa hlay;have HPW:=Aa hpW;have HBL:=Aa hbl;clear hp hpW hs hbd hmo hlay hbl;go_enter Tryz.func10,Tryz.ntmps10;go_upto_region 1 with fail
 generalize w.alloc (.cells #[v0,v1,v2,.bool o.hasSig,v4] 27)=W1 at*;have hb1s:=hb1.size;go_wp2_with fail
 refine(HSH.out _ HPW.out).mono ?_;rintro e w2 ⟨rfl,hb2⟩;have b0:=Ax hb2 a0;have b1:=Ax hb2 a1;have b2:=Ax hb2 a2;have b3:=Ax hb2 a3;have b4:=Ax hb2 a4;have HP2:=Aa (HPW.out.below hb2);have hbw2:Below w.heap.size w w2:=hb1.trans (hb2.mono hb1s);have hbw2s:=hbw2.size;clear a0 a1 a2 a3 a4 hb1 hb2 HPW;cases sb with
 |false=>
  have hE:Hid (res=false):=Aa (by rw[HMO.out];rfl);go_wp2_with fail
  go_ret;rw[hE.out];exact⟨rfl,hbw2⟩
 |true=>
  have HBY2:=Aa (HBY.out w2 HP2.out (HLAY.out rfl));have hbl2:=HBL.out (HLAY.out rfl);have hE:Hid (res=decide ((bytesOf o).length≤16384)):=Aa (by rw[HMO.out];rfl);generalize bytesOf o=bs at*;go_wp2_with fail
  refine HBY2.out.mono ?_;rintro e w3 ⟨v,rfl,ho,hb3⟩;have hbw3:Below w.heap.size w w3:=hbw2.trans (hb3.mono hbw2s);obtain⟨p,c,rfl,_,_,_,_⟩:=Has.of_owns ho;have HO:=Aa ho;generalize bs.length=n at*;clear ho hbw2 hb3;by_cases h:n≤16384
  ·have hI:(n:Int)≤16384:=by omega
   have hE2:Hid (res=true):=Aa (by rw[hE.out];exact Aj h);go_wp2_with fail
   go_ret;rw[hE2.out];exact⟨rfl,hbw3⟩
  ·have hI:decide ((n:Int)≤16384)=false:=Ai (by omega);have hE2:Hid (res=false):=Aa (by rw[hE.out];exact Ai h);go_wp2_with fail
   go_ret;rw[hE2.out];exact⟨rfl,hbw3⟩
def szT(t:Ten)(n:Int):Ten:=⟨t.a,t.b,t.c,t.d,t.e,n,t.g,t.h,t.i,t.j⟩
def szP(p:Bk):Bk:=⟨szT p.h p.b.length,p.name,p.b⟩
abbrev ownV (nm:ByteArray) (t:Ten) (v:Value):Value:= .agg #[.string nm,.int .i64 t.a,.int .i64 t.b,.int .i64 t.c,.int .i64 t.d,.int .i64 t.e,.int .i64 t.f,.int .i64 t.g,.int .i64 t.h,.int .i64 t.i,.int .i64 t.j,v]
theorem Jkt(n:Int)(w:World):Calls Tryz.prog 178 #[.int .i64 n] w fun e w'=>e= .returned (.int .i64 (if n < 0 then 65521 else n))∧w=w':=by
 by_cases h:n < 0
 ·rw[if_pos h];go_enter Tryz.func178,Tryz.ntmps178;go_wp2_with fail
  go_ret;exact⟨rfl,rfl⟩
 ·rw[if_neg h];go_enter Tryz.func178,Tryz.ntmps178;go_wp2_with fail
  go_ret;exact⟨rfl,rfl⟩
theorem Kz(nm:ByteArray)(t:Ten)(p:Option Addr)(n c:Nat)(w:World):
 Calls Tryz.prog 125 #[.string nm,t.v,.slice p n c] w fun e w'=>e= .returned (ownV nm (szT t n) (.slice p n c))∧Below w.heap.size w w':=by
 obtain⟨v0,v1,v2,v3,v4,v5,v6,v7,v8,v9⟩:=t;unfold szT;go_enter Tryz.func125,Tryz.ntmps125;go_wp2_with fail
 exact bodyPost_ret (v:=ownV nm ⟨v0,v1,v2,v3,v4,(n:Int),v6,v7,v8,v9⟩ (.slice p n c)) (by simp[results,Tryz.results125,go_sem,ownV]) rfl ⟨rfl,((Ag _ w).alloc (Af _) _).alloc (by simp) _⟩
theorem Tryz.infoOwnPart:(Tryz.prog.info? 228).map (fun i=>(i.zero,i.size,i.bytes))=some (some (.agg #[.string ⟨#[]⟩,.int .i64 0,.int .i64 0,.int .i64 0,.int .i64 0,.int .i64 0,.int .i64 0,.int .i64 0,.int .i64 0,.int .i64 0,.int .i64 0,.slice none 0 0]),12,120):=by kernel_rfl
theorem Yx(p0:Option Addr)(c0:Nat)(secs:List Ca)(w:World)(hq:Bg 9 Ev w p0 secs)(hl:secs.length≤40):
 Calls Tryz.prog 129 #[.slice p0 secs.length c0] w (Hq 228 false 0 (secs.map Eg) w):=by
 obtain⟨i0,hi,hz0,hz1,hz2⟩:=info_parts Tryz.infoOwnPart;have HI:=Aa hi;have H0:=Aa hz0;have H1:=Aa hz1;have H2:=Aa hz2;have HQ:=Aa hq;generalize hql:secs.length=ql at*;have HQL:=Aa hql;clear hq hi hz0 hz1 hz2 hql;go_enter Tryz.func129,Tryz.ntmps129;go_wp2_with fail
 go_loopw [3,9] (fun r3 r9 wr=>∃(k:Nat)(pv:List PV)(pd:List Bk),k≤ql∧r9= .int .i64 (k:Int)∧pd=(secs.take k).map Eg∧pd.length≤k∧wr.ownsRow w.heap.size 228 12 r3 pd.length (pvs false pv)∧Bf wr (fun b=>0≤b∧some b≠r3.ownBlock) pv pd∧Below w.heap.size w wr) (fun _ r9 _=>ql - (intOf r9).toNat)
 case atStart=>exact⟨0, [], [],Ak _,rfl,rfl,Af _,Aq _ _ _ _,Bf.nil _ _,Ag _ _⟩
 case round=>
  obtain⟨k,pv,pd,hk,rfl,hpd,hpl,hown,hpa,hb⟩:=hrel;have HPD:=Aa hpd;have HPA:=Aa hpa;have hbs:=hb.size;clear hpd hpa;by_cases hlt:k < ql
  ·obtain⟨b,off,s,rfl,hsk,⟨d0,_⟩,⟨d1,_⟩,⟨d2,_⟩,⟨d3,_⟩,⟨d4,_⟩,⟨d5,_⟩,⟨d6,_⟩,⟨vd,d7,hvd⟩,⟨vr,d8,hvr⟩⟩:=HQ.out.at_ (i:=k) (by rw[HQL.out];exact hlt);obtain⟨dp,dc,rfl,l1,l2,l3,hdh⟩:=hvd;obtain⟨rp,rc,rfl,_,_,_,_⟩:=hvr;have e0:=Ax hb d0;have e1:=Ax hb d1;have e2:=Ax hb d2;have e3:=Ax hb d3;have e4:=Ax hb d4;have e5:=Ax hb d5;have e6:=Ax hb d6;have e7:=Ax hb d7;have e8:=Ax hb d8;have hslr:SlB wr (fun b=>0≤b∧some b≠u3.ownBlock) (.slice dp s.data.length dc) s.data:=((SlB.of_cells hdh rfl l1 l2 l3).below hb).weaken fun b _ h=>⟨Ak _,fun e=>by have:=(hown.lt b e.symm).1;omega⟩
   have hE:Hid ((secs.take (k+1)).map Eg=pd++ [Eg s]):=Aa (by rw[HPD.out,List.take_add_one,hsk];simp);have hba:Below wr.heap.size wr (wr.alloc (.cells #[.string s.name,.int .i64 s.type,.int .i64 s.flags,.int .i64 s.align,.int .i64 s.ent,.int .i64 s.link,.int .i64 s.size,.slice dp s.data.length dc,.slice rp s.rels.length rc] 89)):=(Ag _ wr).alloc (Af _) _;have hha:=Dd wr (.cells #[.string s.name,.int .i64 s.type,.int .i64 s.flags,.int .i64 s.align,.int .i64 s.ent,.int .i64 s.link,.int .i64 s.size,.slice dp s.data.length dc,.slice rp s.rels.length rc] 89);have hJ:(k:Int) < (ql:Int):=by omega
   have k2:(0:Int)≤(k:Int):=by omega
   clear hsk d0 d1 d2 d3 d4 d5 d6 d7 d8 hdh l1 l2 l3;go_upto_region 5 with fail
   generalize s.data.length=dn at*;generalize s.rels.length=rn at*;generalize wr.alloc (.cells #[.string s.name,.int .i64 s.type,.int .i64 s.flags,.int .i64 s.align,.int .i64 s.ent,.int .i64 s.link,.int .i64 s.size,.slice dp dn dc,.slice rp rn rc] 89)=ws at*;obtain⟨s0,s1,s2,s3,s4,s5,s6,s7,s8⟩:=Tv _ _ _ _ _ _ _ _ _ _ _ _ hha;have hbt:Below ws.heap.size ws (ws.alloc (.cells #[.int .i64 0,.int .i64 s.type,.int .i64 s.flags,.int .i64 0,.int .i64 0,.int .i64 s.size,.int .i64 s.link,.int .i64 0,.int .i64 s.align,.int .i64 s.ent] 183)):=(Ag _ ws).alloc (Af _) _;have hht:=Dd ws (.cells #[.int .i64 0,.int .i64 s.type,.int .i64 s.flags,.int .i64 0,.int .i64 0,.int .i64 s.size,.int .i64 s.link,.int .i64 0,.int .i64 s.align,.int .i64 s.ent] 183);have t0:=Ax hbt s0;have t7:=Ax hbt s7;have hbas:=hba.size;clear e0 e1 e2 e3 e4 e5 e6 e7 e8 hha;go_upto_region 6 with fail
   have hbw:=hba.trans (hbt.mono hbas);have hsl:Bf (ws.alloc (.cells #[.int .i64 0,.int .i64 s.type,.int .i64 s.flags,.int .i64 0,.int .i64 0,.int .i64 s.size,.int .i64 s.link,.int .i64 0,.int .i64 s.align,.int .i64 s.ent] 183)) (fun b=>0≤b∧some b≠u3.ownBlock) [⟨Mt s,s.name,(.slice dp dn dc)⟩] [Eg s]:=Bf.one (hslr.below hbw);have HPA2:=Aa (HPA.out.below hbw);have hown2:=Bd hown hbw;generalize ws.alloc (.cells #[.int .i64 0,.int .i64 s.type,.int .i64 s.flags,.int .i64 0,.int .i64 0,.int .i64 s.size,.int .i64 s.link,.int .i64 0,.int .i64 s.align,.int .i64 s.ent] 183)=wt at*;obtain⟨x0,x1,x2,x3,x4,x5,x6,x7,x8,x9⟩:=Ms _ _ _ _ _ _ _ _ _ _ _ _ _ hht;have h1c:∀u∈PV.cells false ⟨Mt s,s.name,(.slice dp dn dc)⟩,u.oneCell'=true:=fun u hu=>(hsl.oneCell (q:=false)) u (by simpa[pvs]using hu);have H1C:=Aa h1c;have HSL:=Aa hsl;have hbww:Below w.heap.size w wt:=hb.trans (hbw.mono hbs);have hbwws:=hbww.size;clear s0 s1 s2 s3 s4 s5 s6 s7 s8 hba hbt hht hbw hsl h1c hslr hown hb HPA;go_wp2_with (at_builtin;refine wpList_append_own_at _ rfl (.tmp 26) (.tmp 33) 167 rfl w.heap.size 228 i0 _ 12 120 Tryz.underlying167 HI.out H0.out H1.out H2.out rfl (by decide) _ pd.length _ rfl (hown2.alloc _) ⟨wt.heap.size,0,none⟩ 1 1 (PV.cells false ⟨Mt s,s.name,(.slice dp dn dc)⟩) rfl rfl (Fi wt _ _) H1C.out (by unfold maxLen;omega) (by omega) (by simp;omega) ?_)
   intro v1 w4 hown4 hg4 _ hat4;have HP:=Aa (Jf HPA2.out HSL.out hown4 hg4 hat4);have hb4:Below w.heap.size w w4:=(hbww.alloc hbww.size _).grown hg4 (by simp;omega) (fun g hg=>(hown2.lt g hg).1);clear hown4 hg4 hat4 hown2 HPA2 HSL hbww;go_wp2_with fail
   go_roundw
   case rel=>exact⟨k+1,_,_,hlt,by go_num,hE.out.symm,by simp;omega,HP.out.1,HP.out.2,hb4⟩
   case measure=>simp[intOf];omega
  ·obtain rfl:k=ql:=by omega
   have hJ:¬(k:Int) < (k:Int):=by omega
   have hE:Hid (pd=secs.map Eg):=Aa (by rw[HPD.out,List.take_of_length_le (by rw[HQL.out];exact Af _)]);go_wp2_with fail
   go_ret;rw[←hE.out];exact⟨u3,pv,rfl,hown,HPA.out,hb⟩
def Jpl(secs:List Ca):Prop:=∀s∈secs,s.rels.length≤80∧∀r∈s.rels,(Oh r).may∧ -9223372036854775808≤r.add∧r.add≤9223372036854775807
theorem Jmu(t:Fou)(w:World)(h:t.may)(h1: -9223372036854775808≤t.d)(h2:t.d≤9223372036854775807):Calls Tryz.prog 176 #[t.v] w (Fe (Nr t) w):=by
 exact(Jqa t w ⟨h1,h2⟩).1 h
theorem Yf(p0:Option Addr)(c0:Nat)(secs:List Ca)(w:World)(hq:Bg 9 Ev w p0 secs)(hl:secs.length≤40)(hm:Jpl secs):
 Calls Tryz.prog 131 #[.slice p0 secs.length c0] w (Hq 228 false w.heap.size ((relPs 0 secs secs.length).map szP) w):=by
 obtain⟨i0,hi,hz0,hz1,hz2⟩:=info_parts Tryz.infoOwnPart;have HI:=Aa hi;have H0:=Aa hz0;have H1:=Aa hz1;have H2:=Aa hz2;obtain⟨i1,gi,gz0,gz1,gz2⟩:=info_parts Tryz.infoU8;have GI:=Aa gi;have G0:=Aa gz0;have G1:=Aa gz1;have G2:=Aa gz2;have HQ:=Aa hq;have HS:=Aa hm;generalize hql:secs.length=ql at*;have HQL:=Aa hql;clear hq hi hz0 hz1 hz2 hql gi gz0 gz1 gz2 hm;go_enter Tryz.func131,Tryz.ntmps131;go_wp2_with fail
 go_loopw [3,11] (fun r3 r11 wr=>∃(k:Nat)(pv:List PV)(pd:List Bk),k≤ql∧r11= .int .i64 (k:Int)∧pd=(relPs 0 secs k).map szP∧pd.length≤k∧wr.ownsRow w.heap.size 228 12 r3 pd.length (pvs false pv)∧Bf wr (fun b=>w.heap.size≤b∧some b≠r3.ownBlock) pv pd∧Below w.heap.size w wr) (fun _ r11 _=>ql - (intOf r11).toNat)
 case atStart=>exact⟨0, [], [],Ak _,rfl,rfl,Af _,Aq _ _ _ _,Bf.nil _ _,Ag _ _⟩
 case round=>
  obtain⟨k,pv,pd,hk,rfl,hpd,hpl,hown,hpa,hb⟩:=hrel;have HPD:=Aa hpd;have HPA:=Aa hpa;have hbs:=hb.size;clear hpd hpa;by_cases hlt:k < ql
  ·obtain⟨b,off,s,rfl,hsk,⟨d0,_⟩,⟨d1,_⟩,⟨d2,_⟩,⟨d3,_⟩,⟨d4,_⟩,⟨d5,_⟩,⟨d6,_⟩,⟨vd,d7,hvd⟩,⟨vr,d8,hvr⟩⟩:=HQ.out.at_ (i:=k) (by rw[HQL.out];exact hlt);obtain⟨dp,dc,rfl,_,_,_,_⟩:=hvd;obtain⟨rp,rc,rfl,_,_,_,hrh⟩:=hvr;have e0:=Ax hb d0;have e1:=Ax hb d1;have e2:=Ax hb d2;have e3:=Ax hb d3;have e4:=Ax hb d4;have e5:=Ax hb d5;have e6:=Ax hb d6;have e7:=Ax hb d7;have e8:=Ax hb d8;have hsm:=HS.out s (Ad hsk);have hrl:=hsm.1;have HR:=Aa hsm.2;have HPS:=Aa (Xe (a:=0) hsk);have hba:Below wr.heap.size wr (wr.alloc (.cells #[.string s.name,.int .i64 s.type,.int .i64 s.flags,.int .i64 s.align,.int .i64 s.ent,.int .i64 s.link,.int .i64 s.size,.slice dp s.data.length dc,.slice rp s.rels.length rc] 89)):=(Ag _ wr).alloc (Af _) _;have hha:=Dd wr (.cells #[.string s.name,.int .i64 s.type,.int .i64 s.flags,.int .i64 s.align,.int .i64 s.ent,.int .i64 s.link,.int .i64 s.size,.slice dp s.data.length dc,.slice rp s.rels.length rc] 89);have HRH:=Aa ((hrh.below Hk.keeps hb).below Hk.keeps hba);generalize hrn:s.rels.length=rl at*;have HRN:=Aa hrn;have hJ:(k:Int) < (ql:Int):=by omega
   have k2:(0:Int)≤(k:Int):=by omega
   clear hsk d0 d1 d2 d3 d4 d5 d6 d7 d8 hrh hsm hrn;generalize wr=wo at*;go_upto_region 5 with fail
   generalize s.data.length=dn at*;generalize wo.alloc (.cells #[.string s.name,.int .i64 s.type,.int .i64 s.flags,.int .i64 s.align,.int .i64 s.ent,.int .i64 s.link,.int .i64 s.size,.slice dp dn dc,.slice rp rl rc] 89)=ws at*;obtain⟨_,_,_,_,_,_,_,_,s8⟩:=Tv _ _ _ _ _ _ _ _ _ _ _ _ hha;have hbas:=hba.size;clear e0 e1 e2 e3 e4 e5 e6 e7 e8 hha;go_wp2_with fail
   go_loopw [6,19] (fun r6 r19 wx=>∃(j n:Nat),j≤rl∧r19= .int .i64 (j:Int)∧n=24*j∧wx.ownsRow ws.heap.size 5 1 r6 n ((Ft (s.rels.take j)).map u8v)∧Below ws.heap.size ws wx) (fun _ r19 _=>rl - (intOf r19).toNat)
   case atStart=>exact⟨0,0,Ak _,rfl,rfl,Aq _ _ _ _,Ag _ _⟩
   case round=>
    obtain⟨j,n,hj,rfl,hn,hob,hbx⟩:=hrel;have HN:=Aa hn;have hbxs:=hbx.size;by_cases hjl:j < rl
    ·obtain⟨b2,off2,r,rfl,hrj,⟨x0,_⟩,⟨x1,_⟩,⟨x2,_⟩,⟨x3,_⟩⟩:=HRH.out.at_ (i:=j) (by rw[HRN.out];exact hjl);have d0:=Ax hbx x0;have d1:=Ax hbx x1;have d2:=Ax hbx x2;have d3:=Ax hbx x3;have hmay:=HR.out r (Ad hrj);have HC:=Aa fun W=>Jmu (Oh r) W hmay.1 hmay.2.1 hmay.2.2;have HST:Hid (Ft (s.rels.take (j+1))=Ft (s.rels.take j)++Nr (Oh r)):=Aa (by rw[List.take_add_one,hrj];exact Vx _ _);have hJ1:(j:Int) < (rl:Int):=by omega
     have hJ2:(0:Int)≤(j:Int):=by omega
     have hbr:Below wr.heap.size wr (wr.alloc (.cells #[.int .i64 r.off,.int .i64 r.type,.int .i64 r.sym,.int .i64 r.add] 94)):=(Ag _ wr).alloc (Af _) _;clear hrj hmay x0 x1 x2 x3 hn;go_wp2_with fail
     refine(HC.out _).mono ?_;rintro e w2 ⟨v2',rfl,hown2,hbb2⟩;have hbw2:Below wr.heap.size wr w2:=hbr.trans (hbb2.mono hbr.size);have hob2:=Ed hob hbw2;have hbx2:Below ws.heap.size ws w2:=hbx.trans (hbw2.mono hbxs);obtain⟨p2,cc2,rfl,g1,g2,g3,g4⟩:=Has.of_owns hown2;have hpn:=Fv hown2;have HG4:=Aa g4;have hn80:n≤2000:=by have:=HN.out;omega
     clear hown2 hbb2 hob hbx d0 d1 d2 d3 g4 hbr hbw2;go_wp2_with (at_builtin;refine Cd _ rfl (.tmp 23) (.tmp 25) 31 rfl ws.heap.size 5 i1 Tryz.underlying31 GI.out G0.out G1.out G2.out _ n _ rfl hob2 p2 24 cc2 (Nr (Oh r)) rfl HG4.out rfl hpn (by omega) hbx2.size ?_)
     intro v3 w3 hob3 hg3 _;have hbx3:Below ws.heap.size ws w3:=hbx2.grown hg3 hbx2.size (fun g hg=>(hob2.lt g hg).1);rw[←List.map_append,←HST.out]at hob3;clear hob2 hbx2 hg3;go_wp2_with fail
     go_roundw
     case rel=>exact⟨j+1,n+24,hjl,by go_num,by have:=HN.out;omega,hob3,hbx3⟩
     case measure=>simp[intOf];omega
    ·obtain rfl:j=rl:=by omega
     rw[List.take_of_length_le (by rw[HRN.out];exact Af _)]at hob;have hbow:Below wo.heap.size wo wr:=hba.trans (hbx.mono hbas);have hown2:=Bd hown hbow;have hpa2:Hid (Bf wr (fun b=>w.heap.size≤b∧some b≠u3.ownBlock) pv pd):=Aa (HPA.out.below hbow);have hb2:Below w.heap.size w wr:=hb.trans (hbow.mono hbs);have hbz:=hb2.size;have hJ1:¬(j:Int) < (j:Int):=by omega
     have hu3:=fun g hg=>(hown.lt g hg).2;have hlen:(Ft s.rels).length=n:=by rw[Pd,HRN.out];exact hn.symm
     rcases Nat.eq_zero_or_pos j with h0|h0
     ·subst h0;have hE:Hid ((relPs 0 secs (k+1)).map szP=pd):=Aa (by rw[HPS.out,List.map_append,←HPD.out];unfold Hx;rw[if_pos HRN.out];simp);have hn0:n=0:=by omega
      subst hn0;obtain⟨p6,c6,rfl,_,_,_,_⟩:=Has.of_owns hob;clear hob hown HPA hb hbow hn hlen;go_wp2_with fail
      go_roundw
      case rel=>exact⟨k+1,pv,pd,hlt,by go_num,hE.out.symm,by omega,hown2,hpa2.out,hb2⟩
      case measure=>simp[intOf];omega
     ·obtain⟨p6,c6,rfl,_,_,_,_⟩:=Has.of_owns hob;have hn1:(0:Int) < (n:Int):=by omega
      have kk:IntKind.i64.wrap ((k:Int)+1)=(k:Int)+1:=Al _ (by omega);have HNP:=Aa fun W=>Kz Ly (Io 0 ((k:Int)+1)) p6 n c6 W
      have hsl:Bf wr (fun b=>w.heap.size≤b∧some b≠u3.ownBlock) [⟨szT (Io 0 ((k:Int)+1)) n,Ly,(.slice p6 n c6)⟩] [⟨szT (Io 0 ((k:Int)+1)) n,Ly,Ft s.rels⟩]:=Bf.one (SlB.of_owns hob fun b hb=>by
       have h1:=(hob.lt b hb).1
       exact⟨by omega,fun e=>by have:=hu3 b e.symm;omega⟩)
      have HSL:=Aa hsl
      have hE:Hid ((relPs 0 secs (k+1)).map szP=pd++ [⟨szT (Io 0 ((k:Int)+1)) n,Ly,Ft s.rels⟩]):=Aa (by
       rw[HPS.out,List.map_append,←HPD.out];unfold Hx;rw[if_neg (by rw[HRN.out];omega),List.map_cons,List.map_nil];unfold szP
       rw[hlen])
      clear hob hown HPA hb hbow hn hlen hsl hu3;go_wp2_with fail
      refine(HNP.out _).mono ?_;rintro e w5 ⟨rfl,hbb5⟩;have hown5:=Bd hown2 hbb5;have HPA5:=Aa (hpa2.out.below hbb5);have HSL5:=Aa (HSL.out.below hbb5);have h1c:∀u∈PV.cells false ⟨szT (Io 0 ((k:Int)+1)) n,Ly,(.slice p6 n c6)⟩,u.oneCell'=true:=fun u hu=>(HSL5.out.oneCell (q:=false)) u (by simpa[pvs]using hu);have H1C:=Aa h1c;have hb5:Below w.heap.size w w5:=hb2.trans (hbb5.mono hbz);have hb5s:=hb5.size;clear hown2 hpa2 HSL h1c hbb5 hb2;go_wp2_with (at_builtin;refine wpList_append_own_at _ rfl (.tmp 31) (.tmp 37) 167 rfl w.heap.size 228 i0 _ 12 120 Tryz.underlying167 HI.out H0.out H1.out H2.out rfl (by decide) _ pd.length _ rfl (hown5.alloc _) ⟨w5.heap.size,0,none⟩ 1 1 (PV.cells false ⟨szT (Io 0 ((k:Int)+1)) n,Ly,(.slice p6 n c6)⟩) rfl rfl (Fi w5 _ _) H1C.out (by unfold maxLen;omega) (by omega) (by simp;omega) ?_)
      intro v1 w4 hown4 hg4 _ hat4;have HP:=Aa (Jf HPA5.out HSL5.out hown4 hg4 hat4);have hb4:Below w.heap.size w w4:=(hb5.alloc hb5.size _).grown hg4 (by simp;omega) (fun g hg=>(hown5.lt g hg).1);clear hown4 hg4 hat4 hown5 HPA5 HSL5 hb5;go_wp2_with fail
      go_roundw
      case rel=>exact⟨k+1,_,_,hlt,by go_num,hE.out.symm,by simp;omega,HP.out.1,HP.out.2,hb4⟩
      case measure=>simp[intOf];omega
  ·obtain rfl:k=ql:=by omega
   have hJ:¬(k:Int) < (k:Int):=by omega
   go_wp2_with fail
   go_ret;rw[←HPD.out];exact⟨u3,pv,rfl,hown,HPA.out,hb⟩
def Jpk(gs:List Cs):Prop:=∀g∈gs,g.members.length≤50
theorem Jsm(w:World)(g:Nat)(v0 v1:Value)(T:TypeId)(h:w.heap[g]?=some (.cells #[v0,v1] T (0,0))):w.cell? ⟨g,0,none⟩=some v0∧w.cell? ⟨g,1,none⟩=some v1:=by
 refine⟨?_,?_⟩<;>exact(Am w g _ _ _ (0,0) h).trans rfl
theorem Vl(p0:Option Addr)(c0:Nat)(gs:List Cs)(w:World)(hq:Bg 2 Ew w p0 gs)(hl:gs.length≤40)(hm:Jpk gs):
 Calls Tryz.prog 132 #[.slice p0 gs.length c0] w (Hq 228 false w.heap.size ((gs.map (Dq 0)).map szP) w):=by
 obtain⟨i0,hi,hz0,hz1,hz2⟩:=info_parts Tryz.infoOwnPart;have HI:=Aa hi;have H0:=Aa hz0;have H1:=Aa hz1;have H2:=Aa hz2;obtain⟨i1,gi,gz0,gz1,gz2⟩:=info_parts Tryz.infoU8;have GI:=Aa gi;have G0:=Aa gz0;have G1:=Aa gz1;have G2:=Aa gz2;have HQ:=Aa hq;have HS:=Aa hm;have HPO:Hid (∀W,Calls Tryz.prog 171 #[.int .u64 1,.int .i64 4] W (Fe (Fb []) W)):=Aa fun W=>Sa 1 4 W (by decide) rfl;generalize hres:(gs.map (Dq 0)).map szP=res at*;have HRES:=Aa hres;clear hres;generalize hql:gs.length=ql at*;have HQL:=Aa hql;clear hq hi hz0 hz1 hz2 hql gi gz0 gz1 gz2 hm;go_enter Tryz.func132,Tryz.ntmps132;go_wp2_with fail
 go_loopw [3,11] (fun r3 r11 wr=>∃(k:Nat)(pv:List PV)(pd:List Bk),k≤ql∧r11= .int .i64 (k:Int)∧pd=((gs.take k).map (Dq 0)).map szP∧pd.length≤k∧wr.ownsRow w.heap.size 228 12 r3 pd.length (pvs false pv)∧Bf wr (fun b=>w.heap.size≤b∧some b≠r3.ownBlock) pv pd∧Below w.heap.size w wr) (fun _ r11 _=>ql - (intOf r11).toNat)
 case atStart=>exact⟨0, [], [],Ak _,rfl,rfl,Af _,Aq _ _ _ _,Bf.nil _ _,Ag _ _⟩
 case round=>
  obtain⟨k,pv,pd,hk,rfl,hpd,hpl,hown,hpa,hb⟩:=hrel;have HPD:=Aa hpd;have HPA:=Aa hpa;have hbs:=hb.size;clear hpd hpa;by_cases hlt:k < ql
  ·obtain⟨b,off,g,rfl,hgk,⟨hsy,_⟩,⟨vm,d1,hvm⟩⟩:=HQ.out.at_ (i:=k) (by rw[HQL.out];exact hlt);obtain⟨mp,mc,rfl,m1,m2,_,hmh⟩:=hvm;have e0:=Ax hb hsy;have e1:=Ax hb d1;have hml:=HS.out g (Ad hgk);have hgn:((gs.take (k+1)).map (Dq 0)).map szP=((gs.take k).map (Dq 0)).map szP++ [szP (Dq 0 g)]:=by rw[List.take_add_one,hgk];simp
   have HGN:=Aa hgn;have hba:Below wr.heap.size wr (wr.alloc (.cells #[.int .i64 g.sym,.slice mp g.members.length mc] 100)):=(Ag _ wr).alloc (Af _) _;have hha:=Dd wr (.cells #[.int .i64 g.sym,.slice mp g.members.length mc] 100);have HMH:=Aa ((hmh.below Cc.keeps hb).below Cc.keeps hba);generalize hmn:g.members.length=ml at*;have HMN:=Aa hmn;have hJ:(k:Int) < (ql:Int):=by omega
   have k2:(0:Int)≤(k:Int):=by omega
   clear hgk d1 hmh hmn m1 m2 hsy hgn;generalize wr=wo at*;go_upto_region 5 with fail
   generalize wo.alloc (.cells #[.int .i64 g.sym,.slice mp ml mc] 100)=ws at*;obtain⟨s0,s1⟩:=Jsm _ _ _ _ _ hha;have hbas:=hba.size;have hsl:wo.heap.size < ws.heap.size:=Ao ws _ s0;clear e0 e1 hha;go_wp2_with fail
   refine(HPO.out _).mono ?_;rintro e wp ⟨vp,rfl,hop,hbp⟩;have r0:=Ax hbp s0;have r1:=Ax hbp s1;have HMH2:=Aa (HMH.out.below Cc.keeps hbp);have hop4:wp.ownsRow ws.heap.size 5 1 vp 4 ((Fb []).map u8v):=hop;have hbap:Below wo.heap.size wo wp:=hba.trans (hbp.mono hbas);have hbaps:=hbap.size;have hwsb:=hbp.size;clear hop s0 s1 hba;go_wp2_with fail
   go_loopw [6,19] (fun r6 r19 wx=>∃(j n:Nat),j≤ml∧r19= .int .i64 (j:Int)∧n=4+4*j∧wx.ownsRow ws.heap.size 5 1 r6 n ((Fb (g.members.take j)).map u8v)∧Below ws.heap.size ws wx∧Below wo.heap.size wo wx∧wx.cell? ⟨wo.heap.size,0,none⟩=some (.int .i64 g.sym)) (fun _ r19 _=>ml - (intOf r19).toNat)
   case atStart=>exact⟨0,4,Ak _,rfl,rfl,hop4,hbp,hbap,r0⟩
   case round=>
    obtain⟨j,n,hj,rfl,hn,hob,hbx,hbo,hsc⟩:=hrel;have HN:=Aa hn;have hbxs:=hbx.size;by_cases hjl:j < ml
    ·obtain⟨b2,off2,m,rfl,hmj,x0,_⟩:=HMH.out.at_ (i:=j) (by rw[HMN.out];exact hjl);have d0:=Ax hbx x0;rw[Nat.mul_one]at d0;have HC:Hid (∀W,Calls Tryz.prog 171 #[.int .u64 (IntKind.u64.wrap m),.int .i64 4] W (Fe (Qn m) W)):=Aa fun W=>by
      rw[Jm];exact Sa (u64n m) 4 W (Vg m) rfl
     have HST:Hid (Fb (g.members.take (j+1))=Fb (g.members.take j)++Qn m):=Aa (by rw[List.take_add_one,hmj];exact Uo _ _);have hJ1:(j:Int) < (ml:Int):=by omega
     have hJ2:(0:Int)≤(j:Int):=by omega
     have hmB:(Qn m).length=4:=Dp _ _;have HMB:=Aa hmB;clear hmj x0 hn hmB;go_wp2_with fail
     refine(HC.out _).mono ?_;rintro e w2 ⟨v2',rfl,hown2,hbb2⟩;rw[HMB.out]at hown2;have hob2:=Ed hob hbb2;have hbx2:Below ws.heap.size ws w2:=hbx.trans (hbb2.mono hbxs);have hbo2:Below wo.heap.size wo w2:=hbo.trans (hbb2.mono hbo.size);have hsc2:=Ax hbb2 hsc;obtain⟨p2,cc2,rfl,g1,g2,g3,g4⟩:=Has.of_owns hown2;have hpn:=Fv hown2;have HG4:=Aa g4;have HG3:=Aa g3;have hn80:n≤2000:=by have:=HN.out;omega
     have hwl:=hbo2.size;have hlo:=fun b hb=>(hob2.lt b hb).1;clear hown2 hbb2 hob hbx hbo hsc d0 g4 g3;go_wp2_with (at_builtin;refine Cd _ rfl (.tmp 23) (.tmp 26) 31 rfl ws.heap.size 5 i1 Tryz.underlying31 GI.out G0.out G1.out G2.out _ n _ rfl hob2 p2 4 cc2 (Qn m) rfl HG4.out HG3.out hpn (by omega) hbx2.size ?_)
     intro v3 w3 hob3 hg3 _;have hbx3:Below ws.heap.size ws w3:=hbx2.grown hg3 hbx2.size hlo;have hbo3:Below wo.heap.size wo w3:=hbo2.grown hg3 hwl (fun g hg=>by have:=hlo g hg;omega);have hsc3:=hg3.cell hsc2 (Fo hob2 (by exact hsl));rw[←List.map_append,←HST.out]at hob3;clear hob2 hbx2 hg3 hbo2 hsc2 hlo;go_wp2_with fail
     go_roundw
     case rel=>exact⟨j+1,n+4,hjl,by go_num,by have:=HN.out;omega,hob3,hbx3,hbo3,hsc3⟩
     case measure=>simp[intOf];omega
    ·obtain rfl:j=ml:=by omega
     rw[List.take_of_length_le (by rw[HMN.out];exact Af _)]at hob;have hown2:=Bd hown hbo;have hpa2:Hid (Bf wr (fun b=>w.heap.size≤b∧some b≠u3.ownBlock) pv pd):=Aa (HPA.out.below hbo);have hb2:Below w.heap.size w wr:=hb.trans (hbo.mono hbs);have hbz:=hb2.size;have hJ1:¬(j:Int) < (j:Int):=by omega
     have hu3:=fun g hg=>(hown.lt g hg).2;have hlen:(Fb g.members).length=n:=by rw[Nz,HMN.out];exact hn.symm
     obtain⟨p6,c6,rfl,_,_,_,_⟩:=Has.of_owns hob;have HNP:=Aa fun W=>Kz Li (Hu 0 g.sym) p6 n c6 W
     have hsl2:Bf wr (fun b=>w.heap.size≤b∧some b≠u3.ownBlock) [⟨szT (Hu 0 g.sym) n,Li,(.slice p6 n c6)⟩] [⟨szT (Hu 0 g.sym) n,Li,Fb g.members⟩]:=Bf.one (SlB.of_owns hob fun b hb=>by
      have h1:=(hob.lt b hb).1
      exact⟨by omega,fun e=>by have:=hu3 b e.symm;omega⟩)
     have HSL:=Aa hsl2
     have hE:Hid (((gs.take (k+1)).map (Dq 0)).map szP=pd++ [⟨szT (Hu 0 g.sym) n,Li,Fb g.members⟩]):=Aa (by
      rw[HGN.out,←HPD.out];unfold szP Dq
      rw[hlen])
     clear hob hown HPA hb hbo hn hlen hsl2 hu3 hbx;go_wp2_with fail
     refine(HNP.out _).mono ?_;rintro e w5 ⟨rfl,hbb5⟩;have hown5:=Bd hown2 hbb5;have HPA5:=Aa (hpa2.out.below hbb5);have HSL5:=Aa (HSL.out.below hbb5);have h1c:∀u∈PV.cells false ⟨szT (Hu 0 g.sym) n,Li,(.slice p6 n c6)⟩,u.oneCell'=true:=fun u hu=>(HSL5.out.oneCell (q:=false)) u (by simpa[pvs]using hu);have H1C:=Aa h1c;have hb5:Below w.heap.size w w5:=hb2.trans (hbb5.mono hbz);have hb5s:=hb5.size;clear hown2 hpa2 HSL h1c hbb5 hb2 hsc;go_wp2_with (at_builtin;refine wpList_append_own_at _ rfl (.tmp 29) (.tmp 35) 167 rfl w.heap.size 228 i0 _ 12 120 Tryz.underlying167 HI.out H0.out H1.out H2.out rfl (by decide) _ pd.length _ rfl (hown5.alloc _) ⟨w5.heap.size,0,none⟩ 1 1 (PV.cells false ⟨szT (Hu 0 g.sym) n,Li,(.slice p6 n c6)⟩) rfl rfl (Fi w5 _ _) H1C.out (by unfold maxLen;omega) (by omega) (by simp;omega) ?_)
     intro v1 w4 hown4 hg4 _ hat4;have HP:=Aa (Jf HPA5.out HSL5.out hown4 hg4 hat4);have hb4:Below w.heap.size w w4:=(hb5.alloc hb5.size _).grown hg4 (by simp;omega) (fun g hg=>(hown5.lt g hg).1);clear hown4 hg4 hat4 hown5 HPA5 HSL5 hb5;go_wp2_with fail
     go_roundw
     case rel=>exact⟨k+1,_,_,hlt,by go_num,hE.out.symm,by simp;omega,HP.out.1,HP.out.2,hb4⟩
     case measure=>simp[intOf];omega
  ·obtain rfl:k=ql:=by omega
   have hJ:¬(k:Int) < (k:Int):=by omega
   have hE:Hid (pd=res):=Aa (by rw[HPD.out,List.take_of_length_le (by rw[HQL.out];exact Af _),HRES.out]);go_wp2_with fail
   go_ret;rw[←hE.out];exact⟨u3,pv,rfl,hown,HPA.out,hb⟩
theorem Jix(f r:Nat)(h:¬r < 128):ulebB (f+1) r=UInt8.ofNat (128+r % 128)::ulebB f (r / 128):=by simp[ulebB,h]
theorem Jha(f r:Nat)(h:r < 128):ulebB (f+1) r= [UInt8.ofNat r]:=by simp[ulebB,h]
theorem Jd1(out:List UInt8)(d:UInt8):out.map u8v++ [u8v d]=(out++ [d]).map u8v:=by simp
theorem Jmp(n:Nat)(w:World)(hn:n≤2147483647):Calls Tryz.prog 177 #[.int .i64 n] w (Fe (ulebB 5 n) w):=by
 obtain⟨i0,hi,hz0,hz1,hz2⟩:=info_parts Tryz.infoU8;have HI:=Aa hi;have H0:=Aa hz0;have H1:=Aa hz1;have H2:=Aa hz2;have hnI:¬(2147483647:Int) < (n:Int):=by omega
 have h0I:¬(n:Int) < 0:=by omega
 clear hi hz0 hz1 hz2;go_enter Tryz.func177,Tryz.ntmps177;go_wp2_with fail
 go_loopw [0,3] (fun nn b wr=>∃(f r:Nat)(out:List UInt8),out.length+f=4∧r < 128 ^ (f+1)∧r≤2147483647∧nn= .int .i64 (r:Int)∧wr.ownsRow w.heap.size 5 1 b out.length (out.map u8v)∧Below w.heap.size w wr∧ulebB 5 n=out++ulebB (f+1) r) (fun nn _ _=>(intOf nn).toNat)
 case atStart=>exact⟨4,n, [],rfl,by omega,hn,rfl,Aq _ _ _ _,Ag _ _,rfl⟩
 case round=>
  obtain⟨f,r,out,hof,hrf,hrm,rfl,hown,hb,hrest⟩:=hrel;have HO:=Aa hof;have HR:=Aa hrest;have hl4:out.length≤4:=by omega
  clear hof hrest;by_cases h8:r < 128
  ·obtain⟨d,hdd⟩:∃d,d=UInt8.ofNat r:=⟨_,rfl⟩
   have HU:Hid (ulebB 5 n=out++ [d]):=Aa (by rw[HR.out,Jha f r h8,hdd]);have HB:Hid (Value.int .u8 (r:Int)=u8v d):=Aa (by rw[hdd];unfold u8v;congr 1;simp;omega);have hI:¬(128:Int)≤(r:Int):=by omega
   clear hdd hrf;go_wp2_with (at_builtin;refine wpList_append_own _ rfl _ _ 31 rfl w.heap.size 5 i0 (.int .u8 0) 1 1 Tryz.underlying31 HI.out H0.out H1.out H2.out rfl (by decide) _ _ _ rfl (hown.alloc _) ⟨wr.heap.size,0,none⟩ 1 1 [u8v d] rfl rfl ?xa ?xb ?xc ?xd ?xe ?_)
   case xa=>
    intro j z hj
    match j,hj with
    |0,hj=>simp at hj;subst hj;simp[HB.out]
   case xb=>rfl
   case xc=>unfold maxLen;omega
   case xd=>omega
   case xe=>have:=hb.size;simp;omega
   ·intro v' w1 hown' hgrow _;have hb1:Below w.heap.size w w1:=(hb.alloc hb.size _).grown hgrow (by have:=hb.size;simp;omega) (fun g hg=>(hown.lt g hg).1);rw[Jd1]at hown';clear hgrow hown hb;go_wp2_with fail
    go_ret;refine⟨_,rfl,?_,hb1⟩;rw[HU.out,List.length_append];exact hown'
  ·obtain⟨d,hdd⟩:∃d,d=UInt8.ofNat (128+r % 128):=⟨_,rfl⟩
   have hf:0 < f:=by
    rcases Nat.eq_zero_or_pos f with h0|h0
    ·subst h0;simp at hrf;omega
    ·exact h0
   obtain⟨g,rfl⟩:∃g,f=g+1:=⟨f - 1,by omega⟩
   have hd:r / 128 < 128 ^ (g+1):=by
    rw[Nat.pow_succ]at hrf;exact Nat.div_lt_of_lt_mul (by rw[Nat.mul_comm];exact hrf)
   have HU:Hid (ulebB 5 n=(out++ [d])++ulebB (g+1) (r / 128)):=Aa (by rw[HR.out,Jix (g+1) r h8,hdd];simp);have HB:Hid (Value.int .u8 ((r:Int) % 128+128)=u8v d):=Aa (by rw[hdd];unfold u8v;congr 1;simp;omega);have HD:=Aa hd;have hI:(128:Int)≤(r:Int):=by omega
   clear hdd hrf hd;go_wp2_with (at_builtin;refine wpList_append_own _ rfl _ _ 31 rfl w.heap.size 5 i0 (.int .u8 0) 1 1 Tryz.underlying31 HI.out H0.out H1.out H2.out rfl (by decide) _ _ _ rfl (hown.alloc _) ⟨wr.heap.size,0,none⟩ 1 1 [u8v d] rfl rfl ?ya ?yb ?yc ?yd ?ye ?_)
   case ya=>
    intro j z hj
    match j,hj with
    |0,hj=>simp at hj;subst hj;simp[Addr.add,HB.out]
   case yb=>intro z hz;simp at hz;subst hz;rfl
   case yc=>unfold maxLen;omega
   case yd=>omega
   case ye=>have:=hb.size;simp;omega
   ·intro v' w1 hown' hgrow _;have hb1:Below w.heap.size w w1:=(hb.alloc hb.size _).grown hgrow (by have:=hb.size;simp;omega) (fun g hg=>(hown.lt g hg).1);rw[Jd1]at hown';clear hgrow hown hb;go_wp2_with fail
    go_roundw
    case rel=>
     refine⟨g,r / 128,out++ [d],by have:=HO.out;simp;omega,HD.out,by omega,by go_num,?_,hb1,HU.out⟩;rw[List.length_append];exact hown'
    case measure=>simp[intOf];omega
end Go.Proofs.YteopgmieindojaaGreat
