/- Parts of a proof. -/
import Derived.Test.YteopgmieindojaaGreatGX10
import Derived.Test.YteopgmieindojaaGreatGX08
set_option maxRecDepth 1000000
set_option maxHeartbeats 8000000
namespace Go.Proofs.YteopgmieindojaaGreat
open Go.RowKit
def Ce.bare(x:Ce):Ce:={x with edges:= []}
def Ep(l:List Az)(D:List (List Bool))(xs:List Sx):List Ce:=(nodesOf l D xs).map Ce.bare
def Mw(N:Nat)(w:World)(v:Value)(ys:List Ce):Prop:=∃ns:List Bp,w.ownsRow N 86 14 v ys.length (ns.flatMap Bp.cells)∧(∀n∈ns,n.ok N w∧n.e= .slice none 0 0∧n.x.edges= [])∧ns.map Bp.x=ys
theorem Mw.below{N:Nat}{w w':World}{v:Value}{ys:List Ce}(h:Mw N w v ys)(hb:Below w.heap.size w w'):Mw N w' v ys:=by
 obtain⟨ns,h1,h2,h3⟩:=h;exact⟨ns,Bd h1 hb,fun n hn=>⟨(h2 n hn).1.below hb,(h2 n hn).2⟩,h3⟩
theorem Mw.nil(N:Nat)(w:World):Mw N w (.slice none 0 0) []:=⟨[],Aq _ _ _ _,(fun n hn=>absurd hn (by simp)),rfl⟩
theorem Tryz.infoNode:(Tryz.prog.info? 86).map (fun i=>(i.zero,i.size,i.bytes))=some (some (.agg #[.int .i64 0,.int .i64 0,.int .i64 0,.string ⟨#[]⟩,.int .i64 0,.int .i64 0,.int .i64 0,.int .i64 0,.int .i64 0,.slice none 0 0,.slice none 0 0,.bool false,.int .i64 0,.int .i64 0]),14,152):=by kernel_rfl
theorem Hm{α:Type}{l:List α}{k:Nat}{x:α}(h:l[k]?=some x):l.take (k+1)=l.take k++ [x]:=by
 rw[List.take_succ_eq_append_getElem (Ab.1 h).1,(Ab.1 h).2]
theorem Jgu{α β:Type}{f:α→List β}{M:Nat}:∀{l:List α},(∀x∈l,(f x).length≤M)→(l.flatMap f).length≤l.length*M
 | [],_=>by simp
 |x::l,h=>by
  have ih:=Jgu (l:=l) fun y hy=>h y (by simp[hy]);have:=h x (by simp);rw[List.flatMap_cons,List.length_append,List.length_cons,Nat.succ_mul];omega
theorem Nd{l:List Az}{D:List (List Bool)}(hs:Gi l)(hok:∀o∈l,OkD o)(i k:Nat):(nodesOf l D (Bo Az.secs l i k)).length≤(i+1)*16384000:=by
 rw[Gv];have h1:(Bo Az.secs l i k).length≤(i+1)*1000:=by
  unfold Bo;rw[List.length_append,Nat.succ_mul];have h2:=Ok (f:=Az.secs) (l:=l) (M:=1000) (fun o ho=>(hok o ho).few.1) i;cases ho:l[i]? with
  |none=>simp;omega
  |some o=>
   simp only;have h3:=(hok o (Ad ho)).few.1;have h4:((Eh Az.secs i o).take k).length≤o.secs.length:=by rw[List.length_take,He];omega
   omega
 have h5:=Jgu (f:=Ch D) (M:=16384) (l:=Bo Az.secs l i k) fun x hx=>by
  obtain⟨_,o,ho,hx2⟩:=Ny.1 (show(x.1,x.2.1,x.2.2)∈_ from hx);unfold Ch;cases hasN D x with
  |false=>simp
  |true=>exact(Ey (hs o (Ad ho) x.2.2 (Ad hx2)).facts).2.1
 have h6:(Bo Az.secs l i k).length*16384≤(i+1)*1000*16384:=Nat.mul_le_mul_right _ h1;omega
theorem Rd(w:World)(l:List Value)(T:TypeId):∀j u,l[j]?=some u→(w.alloc (.cells l.toArray T)).cell? ((⟨w.heap.size,0,none⟩:Addr).add j)=some u:=fun j u h=>by
 have ha:(⟨w.heap.size,0,none⟩:Addr).add j=⟨w.heap.size,j,none⟩:=by unfold Addr.add;split<;>simp_all
 rw[ha,Am _ w.heap.size j l.toArray T (0,0) (Ah w _)];simpa using h
theorem Uj(a0 a1 a2 a4 a5 a6 a7 a8 a12 a13:Int)(a3:ByteArray)(p9 p10:Option Addr)(n9 c9 n10 c10:Nat)(a11:Bool):∀u∈ [Value.int .i64 a0,.int .i64 a1,.int .i64 a2,.string a3,.int .i64 a4,.int .i64 a5,.int .i64 a6,.int .i64 a7,.int .i64 a8,.slice p9 n9 c9,.slice p10 n10 c10,.bool a11,.int .i64 a12,.int .i64 a13],u.oneCell'=true:=fun u hu=>by
 simp only[List.mem_cons,List.not_mem_nil,or_false]at hu;rcases hu with rfl|rfl|rfl|rfl|rfl|rfl|rfl|rfl|rfl|rfl|rfl|rfl|rfl|rfl<;>rfl
theorem Jel{l:List Az}(hok:∀o∈l,OkD o)(i:Nat)(hlc:i≤1000)(n:Int):Bn (Gm l i n):=by
 have h1:(Bc Az.groups l i).length≤1000*100000:=Aw (Ok (fun o ho=>(hok o ho).few.2.2.1) i) (Nat.mul_le_mul_right _ hlc);have h2:∀k,0≤Fn l i (Ht l i) n k∧Fn l i (Ht l i) n k≤100000000+(k:Int):=fun k=>by
  induction k with
  |zero=>simp[Fn]
  |succ k ih=>
   unfold Fn;cases (Ht l i).groups[k]? with
   |none=>simp only;omega
   |some g=>
    simp only;cases g.members.contains n<;>simp only[cond_true,cond_false]<;>omega
 have h3:(Ht l i).groups.length≤100000:=by
  unfold Ht;cases hq:l[i]? with
  |none=>simp
  |some o=>exact(hok o (Ad hq)).few.2.2.1
 have:=h2 (Ht l i).groups.length;unfold Bn Gm;omega
theorem Jkp(w:World)(T:TypeId):(w.alloc (.cells #[] T)).ownsRow w.heap.size T 1 (.slice (some ⟨w.heap.size,0,none⟩) 0 0) 0 (([]:List UInt8).map u8v):=
 ⟨rfl,.inr ⟨w.heap.size,0,#[],rfl,Af _,Ah w _,Af _,Ak _,rfl,rfl⟩⟩
theorem Jbk{w:World}{ad:Addr}{l:List UInt8}{A Z:Nat}(h:Bg 1 Ds w (some ad) l)(hl:A+Z≤l.length):Has w (some (ad.add A)) (win l A Z):=by
 by_cases hz:Z=0
 ·subst hz;have:win l A 0= []:=List.eq_nil_of_length_eq_zero (Pg l A 0 hl);rw[this];exact fun i x hx=>by simp at hx
 ·obtain⟨b,off,x,e,_⟩:=h.at_ (i:=0) (by omega);cases e;have:=Jpj h.has A Z hl;unfold Addr.add;split
  ·rename_i hA;subst hA;simpa using this
  ·exact this
theorem Jhr(p pd pf:Option Addr)(c cd nf cf:Nat)(l:List Az)(D:List (List Bool))(w:World)(h:Bg 5 Cg w p l)(hok:∀o∈l,OkD o)(hsg:Gi l)(hlc:l.length≤1000)(hD:Er w pd l D):
 Calls Tryz.prog 73 #[.slice p l.length c,.agg #[.slice pd D.length cd,.slice pf nf cf]] w fun e w'=>∃v,e= .returned v∧Mw w.heap.size w' v (Ep l D (Cl l))∧Below w.heap.size w w':=by
 have ha:Below w.heap.size w (w.alloc (.cells #[.slice pd D.length cd,.slice pf nf cf] 54)):=(Ag _ w).alloc (Af _) _;have hA0:(w.alloc (.cells #[.slice pd D.length cd,.slice pf nf cf] 54)).heap[w.heap.size]?=some (.cells #[.slice pd D.length cd,.slice pf nf cf] 54 (0,0)):=Ah w _;have HH:=Aa fun W (hW:Below w.heap.size w W)=>h.below Cg.keeps hW;have HDR:=Aa fun W (hW:Below w.heap.size w W)=>hD.below hW;have HGR:=Aa fun W (hW:Below w.heap.size w W)(o k:Nat)(ob:Az)(hi:l[o]?=some ob)=>Jiq p c o k l W (h.below Cg.keeps hW) hok hlc hi;have HUN:=Aa fun W (hW:Below w.heap.size w W)(o k:Nat)(ob:Az)(s:Ca)(hi:l[o]?=some ob)(hk:ob.secs[k]?=some s)=>Jft p pd pf c cd nf cf o k l D W (h.below Cg.keeps hW) hok hlc (hD.below hW) hi hk;have HOK:=Aa hok;have HSG:=Aa hsg;have hDl:D.length=l.length:=hD.len;have HDS:=Aa hD.row;have HDL:=Aa hDl;clear hDl;obtain⟨i0,hi,hz0,hz1,hz2⟩:=info_parts Tryz.infoNode;have HI:=Aa hi;have H0:=Aa hz0;have H1:=Aa hz1;have H2:=Aa hz2;have HFEW:=Aa (Nd (D:=D) hsg hok);generalize hgb:w.heap.size=gb at*;have HGB:=Aa hgb;generalize hln:l.length=ln at*;have HLN:=Aa hln;generalize hdn:D.length=dn at*;have HDN:=Aa hdn;have HA:=Aa ha;have HW0:=Aa (show Below gb w w by rw[←hgb];exact Ag _ _);clear h hD hok hsg hgb hln hdn hi hz0 hz1 hz2 ha;go_enter Tryz.func73,Tryz.ntmps73;go_upto_region 1 with fail
 generalize w.alloc (.cells #[.slice pd dn cd,.slice pf nf cf] 54)=w1 at*;rw[HGB.out];have hgs:gb < w1.heap.size:=(Ac.1 hA0).1;go_wp2_with fail
 go_loopw [5,6,7,8,9,10,11,12,13] (fun r5 r6 _ _ _ _ _ _ _ wr=>∃i:Nat,r6= .int .i64 (i:Int)∧i≤ln∧Mw gb wr r5 (Ep l D (Bc Az.secs l i))∧wr.heap[gb]?=some (.cells #[.slice pd dn cd,.slice pf nf cf] 54 (0,0))∧Below gb w wr) (fun _ r6 _ _ _ _ _ _ _ _=>ln - (intOf r6).toNat)
 case atStart=>exact⟨0,rfl,Ak _,Mw.nil _ _,hA0,HA.out⟩
 case round=>
  obtain⟨i,rfl,hi,hR,hT,hb⟩:=hrel;clear hA0 hgs;by_cases hlt:i < ln
  ·obtain⟨o,ho⟩:∃o,l[i]?=some o:=⟨_,Ae (by rw[HLN.out];exact hlt)⟩
   have HO:=Aa ho;have hoo:=HOK.out o (Ad ho);have hql:=hoo.few.1;have HRS:=Aa hR;obtain⟨ql,hqn⟩:∃ql,ql=o.secs.length:=⟨_,rfl⟩
   have HQN:=Aa hqn;rw[←hqn]at hql;have j1:(i:Int) < (ln:Int):=by omega
   have j0:(0:Int)≤(i:Int):=by omega
   clear ho hoo hqn;go_wp2_with fail
   go_loopw [5,7,8,9,10,11,12,13] (fun r5 r7 _ _ _ _ _ _ wr=>∃q:Nat,r7= .int .i64 ((q:Int)+1)∧q≤ql∧Mw gb wr r5 (Ep l D (Bo Az.secs l i q))∧wr.heap[gb]?=some (.cells #[.slice pd dn cd,.slice pf nf cf] 54 (0,0))∧Below gb w wr) (fun _ r7 _ _ _ _ _ _ _=>ql+1 - (intOf r7).toNat)
   case atStart=>exact⟨0,by go_num,Ak _,by rw[Eb];exact HRS.out,hT,hb⟩
   case round=>
    obtain⟨q,rfl,hq,hR,hT,hb⟩:=hrel;obtain⟨b,off,p0,p1,p2,p4,c0,c1,c2,c4,hpe,e0,_,_,_,_,hsec,_⟩:=Du (HH.out w HW0.out) HO.out;subst hpe;have hbW:Below w.heap.size w wr:=by rw[HGB.out];exact hb
    replace e0:=Ax hbW e0;rw[←HQN.out]at e0;have HRS2:=Aa hR;clear hR;by_cases hlt2:q < ql
    ·obtain⟨s,hs⟩:∃s,o.secs[q]?=some s:=⟨_,Ae (by rw[←HQN.out];exact hlt2)⟩
     have HS:=Aa hs;have hsG:=HSG.out o (Ad HO.out) s (Ad hs);have HSGS:=Aa hsG;obtain⟨b2,off2,p7,p8,c7,c8,hpe2,f0,f1,f2,f3,f4,f5,f6,f7,f8,hd7,hd8,hbd⟩:=Rz hsec hs;subst hpe2;replace f0:=Ax hbW f0;replace f1:=Ax hbW f1;replace f2:=Ax hbW f2;replace f3:=Ax hbW f3;replace f4:=Ax hbW f4;replace f5:=Ax hbW f5;replace f6:=Ax hbW f6;replace f7:=Ax hbW f7;replace f8:=Ax hbW f8;clear hbW;have j3:IntKind.i64.wrap ((q:Int)+1 - 1)=(q:Int):=by rw[show(q:Int)+1 - 1=(q:Int) by omega];exact Al _ (by omega)
     have j4:(q:Int) < (ql:Int):=by omega
     have j5:(q:Int)+1≤(ql:Int):=by omega
     have HD7:=Aa hd7;have HDH:Hid (∀W,Below gb w W→Bg 1 Ds W p7 s.data):=Aa fun W hW=>hd7.1.below Ds.keeps (by rw[HGB.out];exact hW);have HBD:=Aa hbd;have HTS:=Aa hT;have HBB:=Aa hb;clear hs hsG hsec hd7 hd8 hbd hT hb;go_upto_region 9 with fail
     have hN:=Ah wr (.cells #[.string s.name,.int .i64 s.type,.int .i64 s.flags,.int .i64 s.align,.int .i64 s.ent,.int .i64 s.link,.int .i64 s.size,.slice p7 s.data.length c7,.slice p8 s.rels.length c8] 89);have hbN:Below wr.heap.size wr (wr.alloc (.cells #[.string s.name,.int .i64 s.type,.int .i64 s.flags,.int .i64 s.align,.int .i64 s.ent,.int .i64 s.link,.int .i64 s.size,.slice p7 s.data.length c7,.slice p8 s.rels.length c8] 89)):=(Ag _ wr).alloc (Af _) _;generalize wr.alloc (.cells #[.string s.name,.int .i64 s.type,.int .i64 s.flags,.int .i64 s.align,.int .i64 s.ent,.int .i64 s.link,.int .i64 s.size,.slice p7 s.data.length c7,.slice p8 s.rels.length c8] 89)=w2 at*;have hbsz:=HBB.out.size;have hR2:=HRS2.out.below hbN;have hT2:=(hbN.block gb (Ac.1 HTS.out).1).trans HTS.out;have hgr:gb < wr.heap.size:=(Ac.1 HTS.out).1;have hb2:=HBB.out.trans (hbN.mono (Ar hgr));generalize hg2:wr.heap.size=g2 at*;have hc:∀j v,(#[.string s.name,.int .i64 s.type,.int .i64 s.flags,.int .i64 s.align,.int .i64 s.ent,.int .i64 s.link,.int .i64 s.size,.slice p7 s.data.length c7,.slice p8 s.rels.length c8]:Array Value)[j]?=some v→w2.cell? ⟨g2,j,none⟩=some v:=fun j v hv=>(Am w2 g2 j _ _ (0,0) hN).trans hv;have s0:=hc 0 _ rfl;have s1:=hc 1 _ rfl;have s2:=hc 2 _ rfl;have s3:=hc 3 _ rfl;have s4:=hc 4 _ rfl;have s5:=hc 5 _ rfl;have s6:=hc 6 _ rfl;have s7:=hc 7 _ rfl;have s8:=hc 8 _ rfl;have HHAS:=Aa fun W=>Kc s.name s.type s.flags s.align s.ent s.link s.size (.slice p7 s.data.length c7) (.slice p8 s.rels.length c8) 2 W (by omega) (by omega) HBD.out.2.2.1;have HSPL:=Aa fun W (hW:Below gb w W)=>Jc9 s p7 c7 (.slice p8 s.rels.length c8) W;have HR2:=Aa hR2;have HB2:=Aa hb2;have HN:=Aa hN;have HBN:=Aa hbN;have HG2:=Aa hg2;clear f0 f1 f2 f3 f4 f5 f6 f7 f8 hc hbN hR2 hb2 hN hbsz;go_upto_region 10 with(first|(go_at_call 31;refine(HHAS.out _).mono ?_;rintro e w3 ⟨rfl,hb3⟩)|fail)
     have hb23:Below gb w w3:=HB2.out.trans (hb3.mono (by have:=(Ac.1 HN.out).1;omega));have hT3:=(hb3.block gb (Ac.1 hT2).1).trans hT2;have HR3:=Aa (HR2.out.below hb3);have HN3:=Aa ((hb3.block g2 (Ac.1 HN.out).1).trans HN.out);have s0':=Ax hb3 s0;have s1':=Ax hb3 s1;have s2':=Ax hb3 s2;have s3':=Ax hb3 s3;have s4':=Ax hb3 s4;have s5':=Ax hb3 s5;have s6':=Ax hb3 s6;have s7':=Ax hb3 s7;have s8':=Ax hb3 s8;have HB3:=Aa hb23;have HT3:=Aa hT3;obtain⟨⟨t0,t1⟩,_⟩:=Bz _ _ _ _ _ hT3;obtain⟨bd,od,qd,cdd,hpd,d0,hdr⟩:=Oa (HDR.out w3 (by first|exact hb23|(rw[HGB.out];exact hb23))).has (i:=i) (by rw[HDN.out,HDL.out];exact hlt);have hdrl:=HDS.out i o HO.out;obtain⟨bq,oq,dv,hqd,hdv,hcd⟩:=hdr.at_ (i:=q) (by rw[hdrl,←HQN.out];exact hlt2);have hcd0:w3.cell? ⟨bq,oq+q,none⟩=some (.bool dv):=by have:=hcd;unfold Ij at this;rw[Nat.mul_one]at this;exact this
     rw[hdrl,←HQN.out]at d0;have hdget:(Cz D i)[q]?.getD false=dv:=by rw[hdv];rfl
     have HHN:Hid (hasN D (i,q,s)=(hasF s.flags 2&& !dv)):=Aa (by unfold hasN;rw[hdget]);subst hpd;subst hqd;generalize hasF s.flags 2=fa at*;have k1:(q:Int)+1 - 1=(q:Int):=by omega
     have k2:(i:Int) < (dn:Int):=by rw[HDL.out];exact j1
     have k3:(0:Int)≤(q:Int):=by omega
     have HSTEP:Hid (Ep l D (Bo Az.secs l i (q+1))=Ep l D (Bo Az.secs l i q)++((Ch D (i,q,s)).map (mkN l D (i,q,s))).map Ce.bare):=Aa (by unfold Ep;rw[Fp HO.out HS.out,Lv,List.map_append];simp[nodesOf]);obtain⟨sk,hsk⟩:∃sk,sk=(!fa || dv):=⟨_,rfl⟩
     have HSK:=Aa hsk;clear hdrl hdv hcd hdget hdr hsk hb3 hb23 hT2 hT3 s0 s1 s2 s3 s4 s5 s6 s7 s8 HHAS;go_cut [53] (fun s53 wx=>s53= .bool sk∧w3=wx)
     case first=>
      cases fa with
      |false=>
       obtain rfl:sk=true:=by rw[HSK.out];rfl
       go_wp2_with fail
       go_meet;exact⟨rfl,rfl⟩
      |true=>
       obtain rfl:sk=dv:=by rw[HSK.out];rfl
       go_wp2_with fail
       go_meet;exact⟨rfl,rfl⟩
     case rest=>
     obtain⟨rfl,rfl⟩:=hcut;clear t0 t1 d0 hcd0;cases sk with
     |true=>
      have HP:Hid (Ch D (i,q,s)= []):=Aa (by
       unfold Ch;rw[HHN.out];have:=HSK.out
       cases fa<;>cases dv<;>first|rfl|(simp at this))
      have HE:Hid (Ep l D (Bo Az.secs l i (q+1))=Ep l D (Bo Az.secs l i q)):=Aa (by rw[HSTEP.out,HP.out];simp);go_wp2_with fail
      go_roundw
      case rel=>exact⟨q+1,by go_num,hlt2,by rw[HE.out];exact HR3.out,HT3.out,HB3.out⟩
      case measure=>simp[intOf];omega
     |false=>
      have HP:Hid (Ch D (i,q,s)=piecesOf s):=Aa (by
       unfold Ch;rw[HHN.out];have:=HSK.out
       cases fa<;>cases dv<;>first|rfl|(simp at this))
      rw[HP.out]at HSTEP;have hspl:=HSPL.out w3 HB3.out (HDH.out w3 HB3.out) HSGS.out.bd (by have:=HSGS.out.few;omega);have HSP:=Aa hspl;clear hspl;go_upto_region 12 with(first|(go_at_call 117;refine HSP.out.mono ?_;rintro e w4 ⟨v4,rfl,hown4,hb4⟩)|fail)
      obtain⟨pp,cp,rfl,_⟩:=Bl hown4;have hgb3:gb≤w3.heap.size:=Ar (Ac.1 HT3.out).1;have HROW4:=Aa (Cm hown4 hgb3);have HN4:=Aa ((hb4.block g2 (Ac.1 HN3.out).1).trans HN3.out);have HT4:=Aa ((hb4.block gb (Ac.1 HT3.out).1).trans HT3.out);have HR4:=Aa (HR3.out.below hb4);have HB4:=Aa (HB3.out.trans (hb4.mono hgb3));obtain⟨pcs,hpcs⟩:∃pcs,pcs=piecesOf s:=⟨_,rfl⟩
      have HPC:=Aa hpcs;rw[←hpcs]at HROW4 HSTEP⊢;obtain⟨pn,hpn⟩:∃pn,pn=pcs.length:=⟨_,rfl⟩
      have HPN:=Aa hpn;rw[←hpn]at HROW4⊢;have hw4s:gb < w4.heap.size:=(Ac.1 HT4.out).1;clear hown4 hb4 hpcs hpn s0' s1' s2' s3' s4' s5' s6' s7' s8' HSP HSPL hgb3;generalize hwo:wr=wo at*;clear hwo;go_wp2_with fail
      go_loopw [5,11,12,13] (fun r5 r11 _ _ wx=>∃k:Nat,r11= .int .i64 (k:Int)∧k≤pn∧Mw gb wx r5 (Ep l D (Bo Az.secs l i q)++((pcs.take k).map (mkN l D (i,q,s))).map Ce.bare)∧FrT gb [86] w4 wx∧Below gb w wx) (fun _ r11 _ _ _=>pn - (intOf r11).toNat)
      case atStart=>exact⟨0,rfl,Ak _,by simpa using HR4.out,FrT.refl _ _ _,HB4.out⟩
      case round=>
       obtain⟨k,rfl,hk,hR,hfr,hb⟩:=hrel;have hN5:=hfr.heap HN4.out (by decide);have hT5:=hfr.heap HT4.out (by decide);have HFR:=Aa hfr;have HRX:=Aa hR;have HBX:=Aa hb;clear hR;have hpn16:pn≤16384:=by rw[HPN.out,HPC.out];exact(Ey HSGS.out.facts).2.1
       by_cases hkl:k < pn
       ·obtain⟨pp2,cp2,hv4,_,_,_,hpl⟩:=Jjk (by rw[←HPN.out];exact hfr.owns HROW4.out (by decide)) (by rw[HPC.out];exact Jbe HSGS.out.facts);obtain⟨b5,o5,x,hp5,hx,hx0,hx1⟩:=hpl.at_ (i:=k) (by rw[←HPN.out];exact hkl);have hx0c:=hx0.1;have hx1c:=hx1.1;rw[←HPN.out]at hv4;have HPF:=Aa ((Ey HSGS.out.facts).2.2.1 x (by rw[←HPC.out];exact Ad hx));have hpp:pp=some ⟨b5,o5,none⟩:=by cases hv4;exact hp5
        subst hpp;clear hv4;have HX:=Aa hx;have hP:=Ah wr (.cells #[.int .i64 x.at_,.int .i64 x.size] 220);have hbP:Below wr.heap.size wr (wr.alloc (.cells #[.int .i64 x.at_,.int .i64 x.size] 220)):=(Ag _ wr).alloc (Af _) _;have m1:(k:Int) < (pn:Int):=by omega
        have m0:(0:Int)≤(k:Int):=by omega
        clear hx hx0 hx1 hpl hp5;go_upto_region 16 with fail
        generalize wr.alloc (.cells #[.int .i64 x.at_,.int .i64 x.size] 220)=w5 at*;have hN6:=(hbP.block g2 (Ac.1 hN5).1).trans hN5;have hgr5:gb < wr.heap.size:=(Ac.1 hT5).1;generalize hg5:wr.heap.size=g5 at*;have HG5:=Aa hg5;clear hg5;have hc:∀j v,(#[.string s.name,.int .i64 s.type,.int .i64 s.flags,.int .i64 s.align,.int .i64 s.ent,.int .i64 s.link,.int .i64 s.size,.slice p7 s.data.length c7,.slice p8 s.rels.length c8]:Array Value)[j]?=some v→w5.cell? ⟨g2,j,none⟩=some v:=fun j v hv=>(Am w5 g2 j _ _ (0,0) hN6).trans hv;have s0:=hc 0 _ rfl;have s1:=hc 1 _ rfl;have s2:=hc 2 _ rfl;have s3:=hc 3 _ rfl;have s4:=hc 4 _ rfl;have s5:=hc 5 _ rfl;have s7:=hc 7 _ rfl;obtain⟨⟨q0,q1⟩,_⟩:=Bz _ _ _ _ _ hP;have HBP:=Aa hbP;have HP5:=Aa hP;have HN6:=Aa hN6;have HT5:=Aa hT5;have HFR2:=Aa hfr;have HB5W:=Aa (hb.trans (hbP.mono (Ar hgr5)));clear hc hx0c hx1c hN5 hT5 hbP hP hN6 hfr hb;go_upto_region 17 with fail
        have hX:=Ah w5 (.cells #[.int .i64 (i:Int),.int .i64 ((q:Int)+1),.int .i64 x.at_,.string s.name,.int .i64 s.type,.int .i64 s.flags,.int .i64 s.align,.int .i64 s.ent,.int .i64 x.size,.slice none 0 0,.slice none 0 0,.bool false,.int .i64 0,.int .i64 s.link] 86);have hbX:Below w5.heap.size w5 (w5.alloc (.cells #[.int .i64 (i:Int),.int .i64 ((q:Int)+1),.int .i64 x.at_,.string s.name,.int .i64 s.type,.int .i64 s.flags,.int .i64 s.align,.int .i64 s.ent,.int .i64 x.size,.slice none 0 0,.slice none 0 0,.bool false,.int .i64 0,.int .i64 s.link] 86)):=(Ag _ w5).alloc (Af _) _;generalize w5.alloc (.cells #[.int .i64 (i:Int),.int .i64 ((q:Int)+1),.int .i64 x.at_,.string s.name,.int .i64 s.type,.int .i64 s.flags,.int .i64 s.align,.int .i64 s.ent,.int .i64 x.size,.slice none 0 0,.slice none 0 0,.bool false,.int .i64 0,.int .i64 s.link] 86)=w6 at*;have HBX6:=Aa hbX;have HX6:=Aa hX;obtain⟨A,hA⟩:∃A:Nat,x.at_=(A:Int):=⟨x.at_.toNat,by have:=HPF.out;omega⟩
        obtain⟨Z,hZ⟩:∃Z:Nat,x.size=(Z:Int):=⟨x.size.toNat,by have:=HPF.out;omega⟩
        have HAA:=Aa hA;have HZZ:=Aa hZ;have s1':=Ax hbX s1;have s7':=Ax hbX s7;have q0':=Ax hbX q0;have q1':=Ax hbX q1;rw[hA]at q0' hX;rw[hZ]at q1' hX;have HDT:Hid (Iv s x=bif s.type==1 then win s.data A Z else []):=Aa (by unfold Iv;rw[hA,hZ,Int.toNat_natCast,Int.toNat_natCast]);clear hA hZ s0 s1 s2 s3 s4 s5 s7 q0 q1;generalize hgx:w5.heap.size=gx at*;have HGX:=Aa hgx;go_upto_if 87 with fail;go_cut [] (fun wx=>∃vd,wx.heap[gx]?=some (.cells #[.int .i64 (i:Int),.int .i64 ((q:Int)+1),.int .i64 x.at_,.string s.name,.int .i64 s.type,.int .i64 s.flags,.int .i64 s.align,.int .i64 s.ent,.int .i64 x.size,vd,.slice none 0 0,.bool false,.int .i64 0,.int .i64 s.link] 86 (0,0))∧wx.ownsRow gx 5 1 vd (Iv s x).length ((Iv s x).map u8v)∧Below gx w5 wx)
        case first=>
         cases hty:(s.type==1)with
         |false=>
          have hd0:Hid (Iv s x= []):=Aa (by rw[HDT.out,hty];rfl);go_wp2_with fail
          go_meet;exact⟨_,HX6.out,by rw[hd0.out];exact Aq _ _ _ _,HBX6.out⟩
         |true=>
          have hd0:Hid (Iv s x=win s.data A Z):=Aa (by rw[HDT.out,hty];rfl);have hAZ:A+Z≤s.data.length:=by
           have h1:=HPF.out;rw[HAA.out,HZZ.out]at h1;have hk:=HSGS.out.kind;have ht:s.type=1:=by simpa using hty
           omega
          have hcap:=HD7.out.2.1;have hmx:=HD7.out.2.2.1;have hfew:=HSGS.out.few;obtain⟨dl,hdl⟩:∃dl,dl=s.data.length:=⟨_,rfl⟩
          have HDLN:=Aa hdl;have g1:(0:Int)≤(A:Int):=by omega
          have g2':(A:Int)≤(A:Int)+(Z:Int):=by omega
          have g3:(A:Int)+(Z:Int)≤(c7:Int):=by omega
          have g4:IntKind.i64.wrap ((A:Int)+(Z:Int))=(A:Int)+(Z:Int):=Al _ (by unfold maxLen at hmx;omega);have hz6:Below w6.heap.size w6 (w6.alloc (.cells #[] 5)):=(Ag _ w6).alloc (Af _) _;have s7z:=Ax hz6 s7';have q0z:=Ax hz6 q0';have q1z:=Ax hz6 q1';clear s1' s7' q0' q1';have hgbx:gb≤gx:=by have:=(Ac.1 HP5.out).1;rw[HGX.out]at this;omega
          have hl0:=Jkp w6 5;have hX7:=(hz6.block gx (Ac.1 HX6.out).1).trans HX6.out;have hgx6:gx≤w6.heap.size:=Ar (Ac.1 HX6.out).1;have hdwin:(win s.data A Z).length=Z:=Pg _ _ _ hAZ;have HD6:=Aa (HDH.out w6);obtain⟨i1,ki,kz0,kz1,kz2⟩:=info_parts Tryz.infoU8;have KI:=Aa ki;have K0:=Aa kz0;have K1:=Aa kz1;have K2:=Aa kz2;clear ki kz0 kz1 kz2;clear hX7;rcases p7 with _|ad
          ·have hdl0:s.data.length=0:=by
            rcases Nat.eq_zero_or_pos s.data.length with h|h
            ·exact h
            ·obtain⟨_,_,_,e,_⟩:=HD7.out.1.at_ h;cases e
           have hc0:c7=0:=HD7.out.2.2.2 rfl;obtain rfl:A=0:=by omega
           obtain rfl:Z=0:=by omega
           subst hc0;have hwin0:Hid (win s.data 0 0= []):=Aa (List.eq_nil_of_length_eq_zero hdwin);clear hdl0 hdwin hcap;go_wp2_with (at_builtin;refine Cd _ rfl (.tmp 88) (.tmp 98) 31 rfl w6.heap.size 5 i1 Tryz.underlying31 KI.out K0.out K1.out K2.out _ 0 [] rfl hl0 _ _ _ [] rfl (fun i x hx=>by simp at hx) rfl (fun _=>rfl) (by omega) hz6.size ?_)
           intro v8 w8 hown8 hgrow8 _;obtain⟨pv,nv,cv,rfl⟩:∃pv nv cv,v8= .slice pv nv cv:=by obtain⟨pv,cv,e,_⟩:=Bl hown8;exact⟨_,_,_,e⟩
           have hb8:Below w6.heap.size w6 w8:=hz6.grown hgrow8 hz6.size (fun g hg=>(hl0.lt g hg).1);have hX8:=(hb8.block gx (Ac.1 HX6.out).1).trans HX6.out;have c9:w8.cell? ⟨gx,9,none⟩=some (.slice none 0 0):=(Am w8 gx 9 _ _ (0,0) hX8).trans rfl;have z9:=Ap w8 gx 9 _ _ hX8;have hset:=An w8 gx 9 _ _ (.slice pv nv cv) hX8;have hfr8:FrT gx [86] w8 (w8.setCell ⟨gx,9,none⟩ (.slice pv nv cv)):=FrT.set hX8 (by simp) (Af _) _;have hown9:=hfr8.owns (Cm hown8 hgx6) (by decide);have HO9:Hid ((w8.setCell ⟨gx,9,none⟩ (.slice pv nv cv)).ownsRow gx 5 1 (.slice pv nv cv) (Iv s x).length ((Iv s x).map u8v)):=Aa (by rw[hd0.out,hwin0.out];simpa using hown9);have HS9:=Aa hset;have HB9:=Aa ((HBX6.out.trans (hb8.mono hgx6)).trans (hfr8.below (Ar (Ac.1 hX8).1)));clear hown8 hgrow8 hb8 hX8 hset hfr8 hown9 hl0 hz6;go_wp2_with fail
           go_meet;exact⟨(.slice pv nv cv),HS9.out,HO9.out,HB9.out⟩
          ·have hcz:Bg 1 Ds (w6.alloc (.cells #[] 5)) (some ad) s.data:=HDH.out _ ((HB5W.out.trans (HBX6.out.mono (by omega))).trans (hz6.mono (by omega)));by_cases hca:c7=A
           ·obtain rfl:Z=0:=by omega
            subst hca;have hwin0:Hid (win s.data c7 0= []):=Aa (List.eq_nil_of_length_eq_zero hdwin);clear hcz hdwin;go_wp2_with (at_builtin;refine Cd _ rfl (.tmp 88) (.tmp 98) 31 rfl w6.heap.size 5 i1 Tryz.underlying31 KI.out K0.out K1.out K2.out _ 0 [] rfl hl0 _ _ _ [] rfl (fun i x hx=>by simp at hx) (by simp) (fun h=>by cases h) (by omega) hz6.size ?_)
            intro v8 w8 hown8 hgrow8 _;obtain⟨pv,nv,cv,rfl⟩:∃pv nv cv,v8= .slice pv nv cv:=by obtain⟨pv,cv,e,_⟩:=Bl hown8;exact⟨_,_,_,e⟩
            have hb8:Below w6.heap.size w6 w8:=hz6.grown hgrow8 hz6.size (fun g hg=>(hl0.lt g hg).1);have hX8:=(hb8.block gx (Ac.1 HX6.out).1).trans HX6.out;have c9:w8.cell? ⟨gx,9,none⟩=some (.slice none 0 0):=(Am w8 gx 9 _ _ (0,0) hX8).trans rfl;have z9:=Ap w8 gx 9 _ _ hX8;have hset:=An w8 gx 9 _ _ (.slice pv nv cv) hX8;have hfr8:FrT gx [86] w8 (w8.setCell ⟨gx,9,none⟩ (.slice pv nv cv)):=FrT.set hX8 (by simp) (Af _) _;have hown9:=hfr8.owns (Cm hown8 hgx6) (by decide);have HO9:Hid ((w8.setCell ⟨gx,9,none⟩ (.slice pv nv cv)).ownsRow gx 5 1 (.slice pv nv cv) (Iv s x).length ((Iv s x).map u8v)):=Aa (by rw[hd0.out,hwin0.out];simpa using hown9);have HS9:=Aa hset;have HB9:=Aa ((HBX6.out.trans (hb8.mono hgx6)).trans (hfr8.below (Ar (Ac.1 hX8).1)));clear hown8 hgrow8 hb8 hX8 hset hfr8 hown9 hl0 hz6;go_wp2_with fail
            go_meet;exact⟨(.slice pv nv cv),HS9.out,HO9.out,HB9.out⟩
           ·have hq7:=Aa (Jbk hcz hAZ);have HWL:Hid ((win s.data A Z).length=A+Z - A):=Aa (by omega);have HWL2:=Aa hdwin;have hne2:¬c7 - A=0:=by omega
            clear hcz hdwin;go_wp2_with (at_builtin;refine Cd _ rfl (.tmp 88) (.tmp 98) 31 rfl w6.heap.size 5 i1 Tryz.underlying31 KI.out K0.out K1.out K2.out _ 0 [] rfl hl0 (some (ad.add A)) (A+Z - A) (c7 - A) (win s.data A Z) rfl hq7.out HWL.out (fun h=>by cases h) (by omega) hz6.size ?_)
            intro v8 w8 hown8 hgrow8 _;obtain⟨pv,nv,cv,rfl⟩:∃pv nv cv,v8= .slice pv nv cv:=by obtain⟨pv,cv,e,_⟩:=Bl hown8;exact⟨_,_,_,e⟩
            have hb8:Below w6.heap.size w6 w8:=hz6.grown hgrow8 hz6.size (fun g hg=>(hl0.lt g hg).1);have hX8:=(hb8.block gx (Ac.1 HX6.out).1).trans HX6.out;have c9:w8.cell? ⟨gx,9,none⟩=some (.slice none 0 0):=(Am w8 gx 9 _ _ (0,0) hX8).trans rfl;have z9:=Ap w8 gx 9 _ _ hX8;have hset:=An w8 gx 9 _ _ (.slice pv nv cv) hX8;have hfr8:FrT gx [86] w8 (w8.setCell ⟨gx,9,none⟩ (.slice pv nv cv)):=FrT.set hX8 (by simp) (Af _) _;have hown9:=hfr8.owns (Cm hown8 hgx6) (by decide);have HO9:Hid ((w8.setCell ⟨gx,9,none⟩ (.slice pv nv cv)).ownsRow gx 5 1 (.slice pv nv cv) (Iv s x).length ((Iv s x).map u8v)):=Aa (by rw[hd0.out,HWL2.out];simpa using hown9);have HS9:=Aa hset;have HB9:=Aa ((HBX6.out.trans (hb8.mono hgx6)).trans (hfr8.below (Ar (Ac.1 hX8).1)));clear hown8 hgrow8 hb8 hX8 hset hfr8 hown9 hl0 hz6;go_wp2_with fail
            go_meet;exact⟨(.slice pv nv cv),HS9.out,HO9.out,HB9.out⟩
        case rest=>
         obtain⟨vd,hxc,hod,hbc⟩:=hcut;obtain⟨pv,nv,cv,rfl⟩:∃pv nv cv,vd= .slice pv nv cv:=by obtain⟨pv,cv,e,_⟩:=Bl hod;exact⟨_,_,_,e⟩
         have hgbx:gb < gx:=by have:=(Ac.1 HP5.out).1;rw[HGX.out]at this;omega
         have hT6:w5.heap[gb]?=some (.cells #[.slice (some ⟨bd,od,none⟩) dn cd,.slice pf nf cf] 54 (0,0)):=(HBP.out.block gb hgr5).trans HT5.out;have HT6:=Aa hT6;have HB5C:=Aa hbc;have HOD:=Aa hod;obtain⟨G,hG⟩:∃G,G=Gm l i ((q:Int)+1):=⟨_,rfl⟩
         obtain⟨U,hU⟩:∃U,U=Ml l D (i,q,s):=⟨_,rfl⟩
         have HG:=Aa hG;have HU:=Aa hU;have h19:=HGR.out wc (HB5W.out.trans (hbc.mono (Ar hgbx))) i q o HO.out;rw[←hG]at h19;have H19:=Aa h19;have HXC:=Aa hxc;clear hG hU h19 hxc hod hbc hT6 s1' s7' q0' q1' hX hbX
         go_upto_region 20 with(first|(go_at_call 118
                                       refine H19.out.mono ?_;rintro e w7 ⟨rfl,hb7⟩;have hx7:=(hb7.block gx (Ac.1 HXC.out).1).trans HXC.out;have c12:w7.cell? ⟨gx,12,none⟩=some (.int .i64 0):=(Am w7 gx 12 _ _ (0,0) hx7).trans rfl
                                       have z12:=Ap w7 gx 12 _ _ hx7)|fail)
         have hx8:(w7.setCell ⟨gx,12,none⟩ (.int .i64 G)).heap[gx]?=some (.cells #[.int .i64 (i:Int),.int .i64 ((q:Int)+1),.int .i64 x.at_,.string s.name,.int .i64 s.type,.int .i64 s.flags,.int .i64 s.align,.int .i64 s.ent,.int .i64 x.size,.slice pv nv cv,.slice none 0 0,.bool false,.int .i64 G,.int .i64 s.link] 86 (0,0)):=An w7 gx 12 _ _ (.int .i64 G) hx7;have hfr8:FrT gx [86] w7 (w7.setCell ⟨gx,12,none⟩ (.int .i64 G)):=FrT.set hx7 (by simp) (Af _) _;have hb58:Below gx w5 (w7.setCell ⟨gx,12,none⟩ (.int .i64 G)):=(HB5C.out.trans (hb7.mono (Ar (Ac.1 HXC.out).1))).trans (hfr8.below (Ar (Ac.1 hx7).1));have hod8:=hfr8.owns (Bd HOD.out hb7) (by decide);generalize w7.setCell ⟨gx,12,none⟩ (.int .i64 G)=w8 at*;clear hfr8 hb7 hx7 c12 z12 HXC H19;have hT8:=(hb58.block gb hgbx).trans HT6.out;obtain⟨⟨t0,t1⟩,_⟩:=Bz _ _ _ _ _ hT8;have h20:=HUN.out w8 (HB5W.out.trans (hb58.mono (Ar hgbx))) i q o s HO.out HS.out;rw[HU.out.symm]at h20;have H20:=Aa h20;have HX8:=Aa hx8;have HB58:=Aa hb58;have HOD8:=Aa hod8;clear h20 hx8 hb58 hod8 hT8
         go_upto_region 21 with(first|(go_at_call 119
                                       refine H20.out.mono ?_;rintro e w9 ⟨rfl,hb9⟩;have hx9:=(hb9.block gx (Ac.1 HX8.out).1).trans HX8.out;have c11:w9.cell? ⟨gx,11,none⟩=some (.bool false):=(Am w9 gx 11 _ _ (0,0) hx9).trans rfl
                                       have z11:=Ap w9 gx 11 _ _ hx9)|fail)
         have hxa:(w9.setCell ⟨gx,11,none⟩ (.bool U)).heap[gx]?=some (.cells #[.int .i64 (i:Int),.int .i64 ((q:Int)+1),.int .i64 x.at_,.string s.name,.int .i64 s.type,.int .i64 s.flags,.int .i64 s.align,.int .i64 s.ent,.int .i64 x.size,.slice pv nv cv,.slice none 0 0,.bool U,.int .i64 G,.int .i64 s.link] 86 (0,0)):=An w9 gx 11 _ _ (.bool U) hx9;have hfra:FrT gx [86] w9 (w9.setCell ⟨gx,11,none⟩ (.bool U)):=FrT.set hx9 (by simp) (Af _) _;have hb5a:Below gx w5 (w9.setCell ⟨gx,11,none⟩ (.bool U)):=(HB58.out.trans (hb9.mono (Ar (Ac.1 HX8.out).1))).trans (hfra.below (Ar (Ac.1 hx9).1));have hoda:=hfra.owns (Bd HOD8.out hb9) (by decide);generalize w9.setCell ⟨gx,11,none⟩ (.bool U)=wa at*;have hc:∀j v,(#[.int .i64 (i:Int),.int .i64 ((q:Int)+1),.int .i64 x.at_,.string s.name,.int .i64 s.type,.int .i64 s.flags,.int .i64 s.align,.int .i64 s.ent,.int .i64 x.size,.slice pv nv cv,.slice none 0 0,.bool U,.int .i64 G,.int .i64 s.link]:Array Value)[j]?=some v→wa.cell? ⟨gx,j,none⟩=some v:=fun j v hv=>(Am wa gx j _ _ (0,0) hxa).trans hv;have y0:=hc 0 _ rfl;have y1:=hc 1 _ rfl;have y2:=hc 2 _ rfl;have y3:=hc 3 _ rfl;have y4:=hc 4 _ rfl;have y5:=hc 5 _ rfl;have y6:=hc 6 _ rfl;have y7:=hc 7 _ rfl;have y8:=hc 8 _ rfl;have y9:=hc 9 _ rfl;have y10:=hc 10 _ rfl;have y11:=hc 11 _ rfl;have y12:=hc 12 _ rfl;have y13:=hc 13 _ rfl;have hrel:=(HRX.out.below (by rw[HG5.out];exact HBP.out):Mw gb w5 _ _).below (by rw[HGX.out];exact hb5a);obtain⟨ns,hn1,hn2,hn3⟩:=hrel;obtain⟨po,co,rfl,_⟩:=Bl hn1;have hcount:(Ep l D (Bo Az.secs l i q)++((pcs.take k).map (mkN l D (i,q,s))).map Ce.bare).length≤1001*16384000+16384:=by
          rw[List.length_append];have h1:=HFEW.out i q;have h2:=(Ey HSGS.out.facts).2.1;have h3:(Ep l D (Bo Az.secs l i q)).length=(nodesOf l D (Bo Az.secs l i q)).length:=by unfold Ep;rw[List.length_map]
          have h4:(((pcs.take k).map (mkN l D (i,q,s))).map Ce.bare).length≤16384:=by
           rw[List.length_map,List.length_map,List.length_take,HPC.out];omega
          have h5:(i+1)*16384000≤1001*16384000:=Nat.mul_le_mul_right _ (by omega);omega
         generalize hys:(Ep l D (Bo Az.secs l i q)++((pcs.take k).map (mkN l D (i,q,s))).map Ce.bare)=ys at*;have HYS:=Aa hys;have HN2:=Aa hn2;have HN3:=Aa hn3;have HB5A:=Aa hb5a;have HODA:=Aa hoda;have hgba:gb≤wa.heap.size:=by have:=(Ac.1 hxa).1;omega
         clear hys hn2 hn3 hfra hb9 hx9 c11 z11 HX8 H20 hxa hc t0 t1 hb5a hoda;go_wp2_with (at_builtin;refine wpList_append_own _ rfl (.tmp 112) (.tmp 114) 74 rfl gb 86 i0 (.agg #[.int .i64 0,.int .i64 0,.int .i64 0,.string ⟨#[]⟩,.int .i64 0,.int .i64 0,.int .i64 0,.int .i64 0,.int .i64 0,.slice none 0 0,.slice none 0 0,.bool false,.int .i64 0,.int .i64 0]) 14 152 Tryz.underlying74 HI.out H0.out H1.out H2.out rfl (by decide) _ _ _ rfl (hn1.alloc _) ⟨wa.heap.size,0,none⟩ 1 1 [.int .i64 (i:Int),.int .i64 ((q:Int)+1),.int .i64 x.at_,.string s.name,.int .i64 s.type,.int .i64 s.flags,.int .i64 s.align,.int .i64 s.ent,.int .i64 x.size,.slice pv nv cv,.slice none 0 0,.bool U,.int .i64 G,.int .i64 s.link] rfl rfl (Rd wa [.int .i64 (i:Int),.int .i64 ((q:Int)+1),.int .i64 x.at_,.string s.name,.int .i64 s.type,.int .i64 s.flags,.int .i64 s.align,.int .i64 s.ent,.int .i64 x.size,.slice pv nv cv,.slice none 0 0,.bool U,.int .i64 G,.int .i64 s.link] _) (Uj _ _ _ _ _ _ _ _ _ _ _ _ _ _ _ _ _ _) (by unfold maxLen;omega) (by omega) (by simp;omega) ?_)
         intro v1 wb hown1 hgrow1 _;have hba:Below wa.heap.size wa (wa.alloc (.cells #[.int .i64 (i:Int),.int .i64 ((q:Int)+1),.int .i64 x.at_,.string s.name,.int .i64 s.type,.int .i64 s.flags,.int .i64 s.align,.int .i64 s.ent,.int .i64 x.size,.slice pv nv cv,.slice none 0 0,.bool U,.int .i64 G,.int .i64 s.link] 86)):=(Ag _ wa).alloc (Af _) _;have hfrb:FrT gb [86] wa wb:=(FrT.of_below hba).trans (FrT.grown (hn1.alloc _) hgrow1 (by simp) (Af _));have hcl:Bp.cells (Bp.mk (Ce.bare (mkN l D (i,q,s) x)) (.slice pv nv cv) (.slice none 0 0))= [.int .i64 (i:Int),.int .i64 ((q:Int)+1),.int .i64 x.at_,.string s.name,.int .i64 s.type,.int .i64 s.flags,.int .i64 s.align,.int .i64 s.ent,.int .i64 x.size,.slice pv nv cv,.slice none 0 0,.bool U,.int .i64 G,.int .i64 s.link]:=by rw[HG.out,HU.out];rfl
         have hownb:wb.ownsRow gb 86 14 v1 (ys.length+1) ((ns++ [(Bp.mk (Ce.bare (mkN l D (i,q,s) x)) (.slice pv nv cv) (.slice none 0 0))]).flatMap Bp.cells):=by
          rw[Ox,hcl];exact hown1
         have hgb9:=Jel HOK.out i (by omega) ((q:Int)+1);have hpf:=HPF.out;have hpz:=HSGS.out.facts.1;obtain⟨z0,z1,z2,z3,z4,z5,z6⟩:=HBD.out
         have hok9:(Bp.mk (Ce.bare (mkN l D (i,q,s) x)) (.slice pv nv cv) (.slice none 0 0)).ok gb wb:=⟨hfrb.owns (Cm HODA.out (Ar hgbx)) (by decide),Aq _ _ _ _,(fun r hr=>absurd hr (by simp[Ce.bare])),by
          refine⟨?_,?_,?_,z0,z1,z2,z3,z4,?_,hgb9,z5⟩
          ·show Bn (i:Int);unfold Bn;omega
          ·show Bn ((q:Int)+1);unfold Bn;omega
          ·show Bn x.at_;unfold Bn;omega
          ·show Bn x.size;unfold Bn;omega⟩
         have HRELB:Hid (Mw gb wb v1 (Ep l D (Bo Az.secs l i q)++((pcs.take (k+1)).map (mkN l D (i,q,s))).map Ce.bare)):=Aa (by
          rw[Hm HX.out,List.map_append,List.map_append,←List.append_assoc,HYS.out];refine⟨ns++ [(Bp.mk (Ce.bare (mkN l D (i,q,s) x)) (.slice pv nv cv) (.slice none 0 0))],by simpa using hownb,fun n hn=>?_,by rw[List.map_append,HN3.out];rfl⟩;rcases List.mem_append.1 hn with hn|hn
          ·obtain⟨h1,h2⟩:=HN2.out n hn;exact⟨⟨hfrb.owns h1.1 (by decide),hfrb.owns h1.2.1 (by decide),h1.2.2⟩,h2⟩
          ·obtain rfl:=List.mem_singleton.1 hn
           exact⟨hok9,rfl,rfl⟩)
         have HFRB:Hid (FrT gb [86] w4 wb):=Aa (((HFR2.out.trans (FrT.of_below (by rw[HG5.out];exact HBP.out))).trans (FrT.of_below (by rw[HGX.out];exact HB5A.out))).trans hfrb);have HBB9:Hid (Below gb w wb):=Aa ((HB5W.out.trans (HB5A.out.mono (Ar hgbx))).trans (hfrb.below hgba));clear hba hfrb hcl hownb hgb9 hpf hpz z0 z1 z2 z3 z4 z5 z6 hok9 hown1 hgrow1 hn1 hcount y0 y1 y2 y3 y4 y5 y6 y7 y8 y9 y10 y11 y12 y13;go_wp2_with fail
         go_roundw
         case rel=>exact⟨k+1,by go_num,hkl,HRELB.out,HFRB.out,HBB9.out⟩
         case measure=>simp[intOf];omega
       ·have hE:Hid (Ep l D (Bo Az.secs l i q)++((pcs.take k).map (mkN l D (i,q,s))).map Ce.bare=Ep l D (Bo Az.secs l i (q+1))):=Aa (by rw[List.take_of_length_le (by rw[←HPN.out];omega)];exact HSTEP.out.symm);have m1:¬(k:Int) < (pn:Int):=by omega
        have HT5:=Aa hT5;clear hN5 hT5 hfr;go_wp2_with fail
        go_roundw
        case rel=>exact⟨q+1,by go_num,hlt2,by rw[←hE.out];exact HRX.out,HT5.out,hb⟩
        case measure=>simp[intOf];omega
    ·have hE:Hid (Ep l D (Bo Az.secs l i q)=Ep l D (Bc Az.secs l (i+1))):=Aa (by rw[Ia HO.out (by rw[←HQN.out];omega)]);have m1:¬(q:Int)+1≤(ql:Int):=by omega
     clear hsec;go_wp2_with fail
     go_roundw
     case rel=>exact⟨i+1,by go_num,by omega,by rw[←hE.out];exact HRS2.out,hT,hb⟩
     case measure=>simp[intOf];omega
  ·obtain rfl:i=ln:=by omega
   have hE:Hid (Ep l D (Cl l)=Ep l D (Bc Az.secs l i)):=Aa (by unfold Cl;rw[HLN.out]);have m1:¬(i:Int) < (i:Int):=by omega
   have HRX:=Aa hR;clear hR;go_wp2_with fail
   go_ret;exact⟨_,rfl,by rw[hE.out];exact HRX.out,hb⟩
end Go.Proofs.YteopgmieindojaaGreat
