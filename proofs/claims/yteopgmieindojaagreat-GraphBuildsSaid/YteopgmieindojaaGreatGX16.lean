/- Parts of a proof. -/
import Derived.Test.YteopgmieindojaaGreatGX15
import Derived.Test.YteopgmieindojaaGreatGX13
import Derived.Test.YteopgmieindojaaGreatGX03
import Derived.Deep.AppendLies
import Derived.Test.YteopgmieindojaaGreatGX11
set_option maxRecDepth 1000000
set_option maxHeartbeats 8000000
namespace Go.Proofs.YteopgmieindojaaGreat
open Go.RowKit
theorem Nc{fn:Func}{p u:Tmp}(h:fn.results= #[.cell p 49,.tmp u])(tmps:Array Value)(w:World)(g:Nat)(v0 v1 b:Value)(hp:tmps.getD p undef= .pointer (some ⟨g,0,none⟩))(hu:tmps.getD u undef=b)
 (hg:w.heap[g]?=some (.cells #[v0,v1] 49 (0,0))):(results fn tmps).run Tryz.prog w= .ok (.tuple #[.agg #[v0,v1],b]) w:=by
 obtain⟨⟨r0,r1⟩,_⟩:=Bz _ _ _ _ _ hg;rw[results_cell_tmp h,hp,hu];go_simp
theorem Lw{w:World}{g N:Nat}{v0 v1:Value}{T:TypeId}(u0 u1:Value)(hN:N≤g)(h:w.heap[g]?=some (.cells #[v0,v1] T (0,0))):
 ((w.setCell ⟨g,0,none⟩ u0).setCell ⟨g,1,none⟩ u1).heap[g]?=some (.cells #[u0,u1] T (0,0))∧FrT N [T] w ((w.setCell ⟨g,0,none⟩ u0).setCell ⟨g,1,none⟩ u1):=by
 have h0:=An w g 0 _ _ u0 h;have h1:=An _ g 1 _ _ u1 h0;exact⟨h1,(FrT.set h (by simp) hN _).trans (FrT.set h0 (by simp) hN _)⟩
theorem Fr2.of_below{lo:Nat}{w w':World}(h:Below w.heap.size w w'):Fr2 lo w w':=⟨h.size,fun g _ hg=>h.block g hg⟩
theorem Fr2.set{lo g:Nat}{w w':World}(h:Fr2 lo w w')(hg:g < lo)(a b:Value):Fr2 lo w ((w'.setCell ⟨g,0,none⟩ a).setCell ⟨g,1,none⟩ b):=
 ⟨by simpa using h.1,fun k h1 h2=>by rw[heap_setCell_other _ _ _ _ (show k≠g by omega),heap_setCell_other _ _ _ _ (show k≠g by omega)];exact h.2 k h1 h2⟩
abbrev Cb:Value:= .slice none 0 0
def Jb9(l:List Az)(mb:Bool)(w':World)(n:Int)(v0 v1:Value):Prop:=
 mb=false∧n=1∧v0=Cb∧v1=Cb∨mb=true∧(Dw (dropsOf l) (Di l) (Bc Az.syms l l.length) []=none∧n=3∧v0=Cb∧v1=Cb∨
  ∃ms defs,Dw (dropsOf l) (Di l) (Bc Az.syms l l.length) []=some ms∧Dz defs∧(∀d,d∈defs ↔ d∈ms)∧
   ((Bc Az.syms l l.length).all (Hr defs)=false∧n=4∧v0=Cb∧v1=Cb∨(Bc Az.syms l l.length).all (Hr defs)=true∧n=0∧Vh w' v0 v1 (dropsOf l) defs))
theorem Jdt(HSV:Sz)(p:Option Addr)(c:Nat)(l:List Az)(w:World)(h:Bg 5 Cg w p l)(mb:Bool)(hyes:mb=true→(∀o∈l,OkD o)∧l.length≤8)
 (hmay:∀W,Below w.heap.size w W→Calls Tryz.prog 52 #[.slice p l.length c] W fun e w'=>e= .returned (.bool mb)∧Below W.heap.size W w'):
 Calls Tryz.prog 19 #[.slice p l.length c] w fun e w'=>∃n v0 v1,e= .returned (.tuple #[.agg #[v0,v1],Fk n])∧Jb9 l mb w' n v0 v1∧Below w.heap.size w w':=by
 have hb1:Below w.heap.size w (w.alloc (.cells #[Cb,Cb] 49)):=(Ag _ w).alloc (Af _) _;have hg1:=Ah w (.cells #[Cb,Cb] 49);have s1:(w.alloc (.cells #[Cb,Cb] 49)).heap.size=w.heap.size+1:=by simp
 have HS1:=Aa s1;have HH:=Aa fun W (hW:Below w.heap.size w W)=>h.below Cg.keeps hW;have HM:=Aa hmay;have HYES:=Aa hyes;clear h hmay hyes s1;go_enter Tryz.func19,Tryz.ntmps19;go_upto_region 1 with fail
 generalize w.alloc (.cells #[Cb,Cb] 49)=w1 at*;generalize hgb:w.heap.size=gb at*;have HGB:=Aa hgb;clear hgb;have hm:=HM.out w1 (by first|exact hb1|(rw[HGB.out];exact hb1));cases mb with
 |false=>
  go_wp2_with fail
  refine hm.mono ?_;rintro e w2 ⟨rfl,hb2⟩;have hR:=(hb2.block gb (by have:=HS1.out;omega)).trans hg1;have hw:=hb1.trans (hb2.mono (by first|exact hb1.size|(rw[←HGB.out];exact hb1.size)));obtain⟨⟨r0,r1⟩,r2,r3⟩:=Bz _ _ _ _ _ hR;have hst:=Lw Cb Cb (Af gb) hR;have HST:=Aa hst;have hsz:gb≤w2.heap.size:=Ar (Ac.1 hR).1;clear hst;go_wp2_with fail
  exact bodyPost_ret (Nc rfl _ _ _ _ _ _ (by rfl) (by rfl) HST.out.1) rfl ⟨1,Cb,Cb,rfl,.inl ⟨rfl,rfl,rfl,rfl⟩,by rw[HGB.out];exact hw.trans (HST.out.2.below hsz)⟩
 |true=>
  obtain⟨hok,hl8⟩:=HYES.out rfl;have HOK:=Aa hok;clear hok;go_wp2_with fail
  refine hm.mono ?_;rintro e w2 ⟨rfl,hb2⟩;have hg2:=(hb2.block gb (by have:=HS1.out;omega)).trans hg1;have hw2:Below gb w w2:=hb1.trans (hb2.mono (by first|exact hb1.size|(rw[←HGB.out];exact hb1.size)));have hgs2:gb < w2.heap.size:=(Ac.1 hg2).1;have hd:=Jc1 p c l w2 (HH.out w2 (by first|exact hw2|(rw[HGB.out];exact hw2))) HOK.out (by omega);clear hb1 hb2 hg1 hm;go_wp2_with fail
  refine hd.mono ?_;rintro e w3 ⟨v,rfl,hD,hb3⟩;have HALL:=Aa hD;obtain⟨pd,cd,rfl,n1,n2,n3,hDh⟩:=hD w3 (Fr2.refl _ _);clear hD;have HNN:=Aa (And.intro n1 (And.intro n2 n3));clear n1 n2 n3
  have hDK:Er w3 pd l (dropsOf l):=⟨hDh,by simp[dropsOf],fun i o ho=>by
   have hi:=(Ab.1 ho).1;have e1:Cz (dropsOf l) i=Jh l i:=by
    unfold Cz dropsOf;rw[List.getElem?_map,List.getElem?_range hi];rfl
   rw[e1];unfold Jh;rw[ho]
   exact Gg l i o _⟩
  have hg3:=(hb3.block gb hgs2).trans hg2;have hw3:Below gb w w3:=hw2.trans (hb3.mono (by omega));have hgs3:gb < w3.heap.size:=(Ac.1 hg3).1;have hdf:=Ji2 HSV p pd c cd l (dropsOf l) w3 (HH.out w3 (by first|exact hw3|(rw[HGB.out];exact hw3))) HOK.out (by omega) hDK
  have HTI:=Aa fun(W:World)(n:Int)(v0 v1:Value)(h:Dw (dropsOf l) (Di l) (Bc Az.syms l l.length) []=none∧n=3∧v0=Cb∧v1=Cb∨
   ∃ms defs,Dw (dropsOf l) (Di l) (Bc Az.syms l l.length) []=some ms∧Dz defs∧(∀d,d∈defs ↔ d∈ms)∧
   ((Bc Az.syms l l.length).all (Hr defs)=false∧n=4∧v0=Cb∧v1=Cb∨(Bc Az.syms l l.length).all (Hr defs)=true∧n=0∧Vh W v0 v1 (dropsOf l) defs))=>(show Jb9 l true W n v0 v1 from .inr ⟨rfl,h⟩)
  have HDH:=Aa hDh;have hms:∀ms,Dw (dropsOf l) (Di l) (Bc Az.syms l l.length) []=some ms→ms.length≤100000:=fun ms hs=>by
   have h1:=Uz hs;have h2:=Pt HOK.out l.length;simp only[List.length_nil]at h1;omega
  have HMS:=Aa hms;clear hDK hDh hg2 hw2 hb3 hms;go_wp2_with fail
  refine hdf.mono ?_;rintro e w4 ⟨hcase,hb4⟩;have hg4:=(hb4.block gb hgs3).trans hg3;have HF4:Hid (Fr2 w2.heap.size w3 w4):=Aa (Fr2.of_below hb4);have hsz23:gb < w3.heap.size:=hgs3;have hw4:Below gb w w4:=hw3.trans (hb4.mono (by omega));have hgs4:gb < w4.heap.size:=(Ac.1 hg4).1;have hDD4:=HDH.out.below Fg.keeps hb4;have HDD4:=Aa hDD4;clear hb4 hdf hg3 hw3 hgs3 hDD4 HDH;rcases hcase with⟨hn,rfl⟩|⟨ms,u,defs,hs,rfl,hdef,hds,hmem,hlen⟩
  ·obtain⟨⟨r0,r1⟩,r2,r3⟩:=Bz _ _ _ _ _ hg4;have hst:=Lw Cb Cb (Af gb) hg4;have HST:=Aa hst;have hsz:gb≤w4.heap.size:=by omega
   have HN:=Aa hn;clear hst hn;go_wp2_with fail
   exact bodyPost_ret (Nc rfl _ _ _ _ _ _ (by rfl) (by rfl) HST.out.1) rfl ⟨3,Cb,Cb,rfl,HTI.out _ _ _ _ (.inl ⟨HN.out,rfl,rfl,rfl⟩),by rw[HGB.out];exact hw4.trans (HST.out.2.below hsz)⟩
  ·have HALD:=Aa hdef;obtain⟨pf,cf,rfl,u1,u2,u3,hDf⟩:=hdef w4 (Fr2.refl _ _);clear hdef;have hdl:defs.length≤100000:=by rw[hlen];exact HMS.out ms hs
   have HS:=Aa hs;have HDS:=Aa hds;have HMEM:=Aa hmem;have HDF:=Aa hDf;have HIS:=Aa (show IsL 3 Dg w4 (.slice pf defs.length cf) defs from⟨pf,cf,rfl,u1,u2,u3,hDf⟩);clear hs hds hmem hDf hlen u1 u2 u3;have hb5:Below w4.heap.size w4 (w4.alloc (.cells #[.slice pd (dropsOf l).length cd,.slice pf defs.length cf] 49)):=(Ag _ w4).alloc (Af _) _;have hgt:=Ah w4 (.cells #[.slice pd (dropsOf l).length cd,.slice pf defs.length cf] 49);go_upto_region 8 with fail
   generalize w4.alloc (.cells #[.slice pd (dropsOf l).length cd,.slice pf defs.length cf] 49)=w5 at*;have hg5:=(hb5.block gb hgs4).trans hg4;have HF5:Hid (Fr2 w2.heap.size w4 w5∧Fr2 w3.heap.size w4 w5):=Aa ⟨Fr2.of_below hb5,Fr2.of_below hb5⟩;have hw5:Below gb w w5:=hw4.trans (hb5.mono (by omega));have hgs5:gb < w5.heap.size:=(Ac.1 hg5).1;have HIS5:=Aa (HIS.out.below Dg.keeps hb5);have HDD5:=Aa (HDD4.out.below Fg.keeps hb5);have had:=Zf p pf c defs.length cf (.slice pd (dropsOf l).length cd) l defs w5 (HH.out w5 (by first|exact hw5|(rw[HGB.out];exact hw5))) HOK.out (by omega) (HDF.out.below Dg.keeps hb5) rfl hdl HDS.out;obtain⟨ab,hab⟩:∃ab,ab=(Bc Az.syms l l.length).all (Hr defs):=⟨_,rfl⟩
   rw[←hab]at had;have HAB:=Aa hab;have hgts:w4.heap.size < w5.heap.size:=(Ac.1 hgt).1;generalize w4.heap.size=g7 at*;obtain⟨⟨a0,a1⟩,_⟩:=Bz _ _ _ _ _ hgt;clear hb5 hg4 hw4 hab;go_wp2_with fail
   refine had.mono ?_;rintro e w6 ⟨rfl,hb6⟩;have hg6:=(hb6.block gb hgs5).trans hg5;have HF6:Hid (Fr2 w2.heap.size w3 w6∧Fr2 w3.heap.size w4 w6):=Aa ⟨HF4.out.trans (HF5.out.1.trans (Fr2.of_below hb6)),HF5.out.2.trans (Fr2.of_below hb6)⟩;have hw6:Below gb w w6:=hw5.trans (hb6.mono (by omega));have hgs6:gb < w6.heap.size:=(Ac.1 hg6).1;have hgt6:=(hb6.block g7 hgts).trans hgt;have HIS6:=Aa (HIS5.out.below Dg.keeps hb6);have HDD6:=Aa (HDD5.out.below Fg.keeps hb6);clear hb6 had a0 a1;obtain⟨⟨a0,a1⟩,_⟩:=Bz _ _ _ _ _ hgt6;obtain⟨⟨r0,r1⟩,r2,r3⟩:=Bz _ _ _ _ _ hg6;cases ab with
   |false=>
    have hst:=Lw Cb Cb (Af gb) hg6;have HST:=Aa hst;clear hst;go_wp2_with fail
    exact bodyPost_ret (Nc rfl _ _ _ _ _ _ (by rfl) (by rfl) HST.out.1) rfl ⟨4,Cb,Cb,rfl,HTI.out _ _ _ _ (.inr ⟨ms,defs,HS.out,HDS.out,HMEM.out,.inl ⟨HAB.out.symm,rfl,rfl,rfl⟩⟩),by rw[HGB.out];exact hw6.trans (HST.out.2.below (by omega))⟩
   |true=>
    have hst:=Lw (.slice pd (dropsOf l).length cd) (.slice pf defs.length cf) (Af gb) hg6;have HST:=Aa hst;clear hst;go_wp2_with fail
    exact bodyPost_ret (Nc rfl _ _ _ _ _ _ (by rfl) (by rfl) HST.out.1) rfl ⟨0,_,_,rfl,HTI.out _ _ _ _ (.inr ⟨ms,defs,HS.out,HDS.out,HMEM.out,.inr ⟨HAB.out.symm,rfl,HALL.out _ (HF6.out.1.set hgs2 _ _),HALD.out _ (HF6.out.2.set hsz23 _ _)⟩⟩),by rw[HGB.out];exact hw6.trans (HST.out.2.below (by omega))⟩
theorem Jh7(p:Option Addr)(c i k:Nat)(l:List Az)(w:World)(h:Bg 5 Cg w p l)(hok:∀o∈l,OkD o)(hlc:l.length≤100000){o:Az}{g:Cs}(hi:l[i]?=some o)(hk:o.groups[k]?=some g):
 Calls Tryz.prog 109 #[.slice p l.length c,.int .i64 (i:Int),.int .i64 (k:Int)] w fun e w'=>e= .returned (.bool (metB l i k (Ff o g.sym)))∧Below w.heap.size w w':=by
 obtain⟨b,off,p0,p1,p2,p4,c0,c1,c2,c4,rfl,e0,e1,e2,_,_,_,hsy,hgr,_,_⟩:=Du h hi;have hil:i < l.length:=(Ab.1 hi).1;have hkl:k < o.groups.length:=(Ab.1 hk).1;have hoo:=hok o (Ad hi);obtain⟨sn,s,hsn,hs,hnm⟩:=hoo.sym (Ad hk);obtain⟨b2,off2,g',rfl,hg',hE,_⟩:=hgr.at_ hkl;obtain rfl:g'=g:=by rw[hk]at hg';cases hg';rfl
 have hg0:=hE.1;rw[hsn]at hg0;have hsl:sn < o.syms.length:=(Ab.1 hs).1;obtain⟨b1,off1,s',rfl,hs',hS⟩:=hsy.at_ hsl;obtain rfl:s'=s:=by rw[hs]at hs';cases hs';rfl
 have hs0:=hS.1.1;have HH:=Aa h;have HOK:=Aa hok;have HI:=Aa hi;have HK:=Aa hk;obtain⟨res,hres⟩:∃res,res=metB l i k s'.name:=⟨_,rfl⟩
 rw[hnm,←hres];have HRES:=Aa hres;obtain⟨nm,hnm2⟩:∃nm,nm=s'.name:=⟨_,rfl⟩
 rw[←hnm2]at hs0;rw[←hnm2]at HRES;have hgl:=hoo.few.2.2.1;generalize hln:l.length=ln at*;have HLN:=Aa hln;generalize hgn:o.groups.length=gn at*;have HGN:=Aa hgn;generalize o.syms.length=yn at*;generalize o.secs.length=qn at*;have hJ:(i:Int) < (ln:Int):=by omega
 have hJ2:(k:Int) < (gn:Int):=by omega
 have hJ3:(sn:Int) < (yn:Int):=by omega
 clear h hok hi hk hsy hgr hg' hE hs' hS hs hnm hres hsn hln hgn hoo hnm2;go_enter Tryz.func109,Tryz.ntmps109;go_upto_region 1 with fail
 go_quiet (fail);have hbq:Below w.heap.size w (w.drewN nq):=Bq (Ag _ w) _;generalize w.drewN nq=w1 at*;generalize hgb:w.heap.size=gb at*;have HGB:=Aa hgb;clear e0 e1 e2 hg0 hs0 hgb hJ2 hJ3;go_wp2_with fail
 go_loopw [8,9] (fun r8 _ wr=>∃a:Nat,r8= .int .i64 (a:Int)∧a≤i+1∧Below gb w wr∧((a≤i∧(Bc Az.groups l a).any (fun x=>sEq (Lx l x) nm)=false)∨(a=i+1∧res=false))) (fun r8 _ _=>i+1 - (intOf r8).toNat)
 case atStart=>exact⟨0,rfl,Ak _,hbq,.inl ⟨Ak _,rfl⟩⟩
 case round=>
  obtain⟨a,rfl,ha,hbr,hcase⟩:=hrel;by_cases hai:a≤i
  ·have hany:(Bc Az.groups l a).any (fun x=>sEq (Lx l x) nm)=false:=by
    rcases hcase with⟨_,h⟩|⟨h,_⟩
    ·exact h
    ·omega
   obtain⟨oa,hoa⟩:∃oa,l[a]?=some oa:=⟨_,Ae (by rw[HLN.out];omega)⟩
   have HOA:=Aa hoa;have hok2:=HOK.out oa (Ad hoa);have hgl2:=hok2.few.2.2.1;have HO2:=Aa hok2;have HANY:=Aa hany;have hA:(a:Int)≤(i:Int):=by omega
   have hA1:(a:Int) < (ln:Int):=by omega
   have hA0:(0:Int)≤(a:Int):=by omega
   clear hcase hany hoa hok2;go_wp2_with fail
   go_loopw [9] (fun r9 wq=>∃bb:Nat,r9= .int .i64 (bb:Int)∧bb≤oa.groups.length∧(a=i→bb≤k)∧Below gb w wq∧(Bo Az.groups l a bb).any (fun x=>sEq (Lx l x) nm)=false) (fun r9 _=>oa.groups.length - (intOf r9).toNat)
   case atStart=>exact⟨0,rfl,Ak _,fun _=>Ak _,hbr,by rw[Eb];exact HANY.out⟩
   case round=>
    obtain⟨bb,rfl,hbb,hbk,hbq2,hany⟩:=hrel;have HANY2:=Aa hany;have hH:=HH.out.below Cg.keeps (show Below w.heap.size w wr by rw[HGB.out];exact hbq2);obtain⟨b,off,p0,p1,p2,p4,c0,c1,c2,c4,hpe,e0,e1,e2,_,_,_,hsy,hgr,_,_⟩:=Du hH HOA.out;cases hpe;have hwr:Below gb w wr:=hbq2;by_cases hlt:bb < oa.groups.length
    ·obtain⟨b2,off2,g2,rfl,hg2,hE,_⟩:=hgr.at_ hlt;obtain⟨sn2,s2,hsn2,hs2,hnm2⟩:=HO2.out.sym (Ad hg2);have hg0:=hE.1;rw[hsn2]at hg0;have hsl2:sn2 < oa.syms.length:=(Ab.1 hs2).1;obtain⟨b1,off1,s3,rfl,hs3,hS⟩:=hsy.at_ hsl2;obtain rfl:s3=s2:=by rw[hs2]at hs3;cases hs3;rfl
     have hs0:=hS.1.1;have hgn:Lx l (a,bb,g2)=s3.name:=by
      unfold Lx;rw[HOA.out];exact hnm2
     have HSTEP:Hid ((Bo Az.groups l a (bb+1)).any (fun x=>sEq (Lx l x) nm)=sEq s3.name nm):=Aa (by
      rw[Fp HOA.out hg2,List.any_append,HANY2.out,←hgn]
      simp)
     have HYES:Hid ((a < i∨a=i∧bb < k)→sEq s3.name nm=true→res=true):=Aa (fun h1 h2=>by
      rw[HRES.out]
      exact Jnf HOA.out hg2 h1 (by rw[hgn];exact h2))
     have HEND:Hid (a=i→bb=k→res=false):=Aa (fun h1 h2=>by
      subst h1 h2;rw[HRES.out]
      exact HANY2.out)
     obtain⟨nm2,hnm3⟩:∃nm2,nm2=s3.name:=⟨_,rfl⟩
     rw[←hnm3]at hs0 HSTEP HYES;generalize oa.syms.length=yl at*;generalize hgl3:oa.groups.length=gl at*;have HGL3:=Aa hgl3;have hB:(bb:Int) < (gl:Int):=by omega
     have hS2:(sn2:Int) < (yl:Int):=by omega
     obtain⟨brk,hbrk⟩:∃brk,brk=(((a:Int)==(i:Int))&&decide ((k:Int)≤(bb:Int))):=⟨_,rfl⟩
     have HBRK:=Aa hbrk;clear hg2 hE hsn2 hs2 hnm2 hs3 hS hgn hnm3 hgl3 hany hsy hgr hH hbrk;go_upto_region 8 with fail
     go_cut [49] (fun s49 wx=>s49= .bool brk∧wr=wx)
     case first=>
      cases hq:((a:Int)==(i:Int))with
      |false=>
       obtain rfl:brk=false:=by rw[HBRK.out,hq];rfl
       go_wp2_with fail
       go_meet;exact⟨rfl,rfl⟩
      |true=>
       by_cases hkb:(k:Int)≤(bb:Int)
       ·obtain rfl:brk=true:=by rw[HBRK.out,hq,Aj hkb];rfl
        go_wp2_with fail
        go_meet;exact⟨rfl,rfl⟩
       ·obtain rfl:brk=false:=by rw[HBRK.out,hq,Ai hkb];rfl
        go_wp2_with fail
        go_meet;exact⟨rfl,rfl⟩
     case rest=>
      obtain⟨rfl,rfl⟩:=hcut;cases brk with
      |true=>
       have hb2:=HBRK.out;have h3:a=i∧k≤bb:=by
        have h4:=hb2.symm;rw[Bool.and_eq_true,decide_eq_true_eq,beq_iff_eq]at h4;omega
       obtain⟨rfl,h5⟩:=h3;have hE:Hid (res=false):=Aa (HEND.out rfl (by have:=hbk rfl;omega));clear hb2;go_wp2_with fail
       go_roundw
       case rel=>exact⟨a+1,by go_num,Af _,hwr,.inr ⟨rfl,hE.out⟩⟩
       case measure=>simp[intOf]
      |false=>
       have h3:a < i∨a=i∧bb < k:=by
        have hb2:=HBRK.out.symm;rw[Bool.and_eq_false_iff]at hb2;rcases hb2 with h4|h4
        ·have:¬(a:Int)=(i:Int):=by simpa using h4
         omega
        ·have:=of_decide_eq_false h4;omega
       have HH3:=Aa h3;have hbk2:a=i→bb+1≤k:=fun h=>by omega
       obtain⟨q,hq⟩:∃q,q=sEq nm2 nm:=⟨_,rfl⟩
       rw[←hq]at HSTEP HYES;have hq2:(nm2.toList==nm.toList)=q:=hq.symm;clear h3 hq;go_upto_region 9 with fail
       go_quiet (fail);have hwq:Below gb w (wr.drewN nq):=Bq hwr _;generalize wr.drewN nq=w2 at*;cases q with
       |true=>
        have hE:Hid (res=true):=Aa (HYES.out HH3.out rfl);clear e0 e1 e2 hg0 hs0;go_wp2_with fail
        go_ret;rw[hE.out];exact⟨rfl,by rw[HGB.out];exact hwq⟩
       |false=>
        clear e0 e1 e2 hg0 hs0;go_wp2_with fail
        go_roundw
        case rel=>exact⟨bb+1,by go_num,hlt,hbk2,hwq,HSTEP.out⟩
        case measure=>simp[intOf];omega
    ·have hbe:bb=oa.groups.length:=by omega
     have hlti:a < i:=by
      rcases Nat.lt_or_ge a i with h|h
      ·exact h
      ·obtain rfl:a=i:=by omega
       have:=hbk rfl;have h1:=HOA.out;rw[HI.out]at h1;cases h1;have:=HGN.out;omega
     have hany2:Hid ((Bc Az.groups l (a+1)).any (fun x=>sEq (Lx l x) nm)=false):=Aa (by rw[←Ia HOA.out (k:=bb) (by omega)];exact HANY2.out);generalize oa.groups.length=gl at*;have hB:¬(bb:Int) < (gl:Int):=by omega
     clear hany hsy hgr hH;go_wp2_with fail
     go_roundw
     case rel=>exact⟨a+1,by go_num,by omega,hwr,.inl ⟨hlti,hany2.out⟩⟩
     case measure=>simp[intOf];omega
  ·obtain rfl:a=i+1:=by omega
   have hE:Hid (res=false):=Aa (by
    rcases hcase with⟨h,_⟩|⟨_,h⟩
    ·omega
    ·exact h)
   have hA:¬((i+1:Nat):Int)≤(i:Int):=by omega
   clear hcase;go_wp2_with fail
   go_ret;rw[hE.out];exact⟨rfl,by rw[HGB.out];exact hbr⟩
theorem Tryz.infoBool9:(Tryz.prog.info? 4).map (fun i=>(i.zero,i.size,i.bytes))=some (some (.bool false),1,1):=by kernel_rfl
theorem Jhm{α:Type}{l:List α}{k:Nat}{x:α}(h:l[k]?=some x):l.take (k+1)=l.take k++ [x]:=by
 rw[List.take_succ_eq_append_getElem (Ab.1 h).1,(Ab.1 h).2]
theorem Jdm(p:Option Addr)(c i:Nat)(l:List Az)(w:World)(h:Bg 5 Cg w p l)(hok:∀o∈l,OkD o)(hlc:l.length≤100000){o:Az}(hi:l[i]?=some o):
 Calls Tryz.prog 56 #[.slice p l.length c,.int .i64 (i:Int)] w fun e w'=>∃q c',e= .returned (.slice q o.secs.length c')∧w'.ownsRow w.heap.size 4 1 (.slice q o.secs.length c') o.secs.length ((Jh l i).map Value.bool)∧Below w.heap.size w w':=by
 obtain⟨i0,gi,gz0,gz1,gz2⟩:=info_parts Tryz.infoBool9;have GI:=Aa gi;have G0:=Aa gz0;have G1:=Aa gz1;have G2:=Aa gz2;have hil:i < l.length:=(Ab.1 hi).1;have hoo:=hok o (Ad hi);have hdr:Jh l i=Dk l i o o.groups.length:=by unfold Jh;rw[hi]
 obtain⟨b,off,p0,p1,p2,p4,c0,c1,c2,c4,hpe,e0,e1,e2,_,_,_,hsy,hgr,_,_⟩:=Du h hi;subst hpe;have HAH:=Aa fun(k:Nat)(g:Cs)(hk:o.groups[k]?=some g) W (hW:Below w.heap.size w W)=>Jh7 (some ⟨b,off,none⟩) c i k l W (h.below Cg.keeps hW) hok hlc hi hk;have HGR:=Aa hgr;have HE2:=Aa fun W (hW:Below w.heap.size w W)=>Ax hW e2;have HMEM:=Aa hoo.mem;have HFEW:=Aa hoo.few.2.2.2.2;have hql:=hoo.few.1;rw[hdr];generalize hln:l.length=ln at*;generalize hqn:o.secs.length=qn at*;have hJ:(i:Int) < (ln:Int):=by omega
 have hgn0:=hoo.few.2.2.1;generalize hgn:o.groups.length=gn at*;have HGN:=Aa hgn;have HQN:=Aa hqn;clear gi gz0 gz1 gz2 h hok hi hoo hdr e1 hsy hgr hln hgn hqn;go_enter Tryz.func56,Tryz.ntmps56;generalize hgb:w.heap.size=gb at*;have HGB:=Aa hgb;have hb8:i0.bytes*qn≤281474976710656:=by rw[G2.out];omega
 go_wp2_with (at_make;refine wpList_make_full _ rfl _ _ 138 rfl gb 4 i0 (.bool false) 1 Tryz.underlying138 GI.out G0.out G1.out _ _ _ _ qn rfl rfl rfl rfl hb8 (by unfold maxLen;omega) (by omega) ?_)
 intro w1 hown hgrow;have hb1:Below gb w w1:=by rw[←hgb];exact(Ag _ w).grown hgrow (Af _) (fun k h=>by cases h)
 have hown0:w1.ownsRow gb 4 1 (.slice (some ⟨gb,0,none⟩) qn qn) qn ((Dk l i o 0).map Value.bool):=by
  rw[show Dk l i o 0=List.replicate qn false by unfold Dk;rw[HQN.out],List.map_replicate,←toList_madeCells_one];exact hown
 clear hown hgrow hb8 e0 e2 hgb;go_wp2_with fail
 go_loopw [6,7,8] (fun r6 _ _ wr=>∃k:Nat,k≤gn∧r6= .int .i64 (k:Int)∧wr.ownsRow gb 4 1 (.slice (some ⟨gb,0,none⟩) qn qn) qn ((Dk l i o k).map Value.bool)∧Below gb w wr) (fun r6 _ _ _=>gn - (intOf r6).toNat)
 case atStart=>exact⟨0,Ak _,rfl,hown0,hb1⟩
 case round=>
  obtain⟨k,hk,rfl,hown,hb⟩:=hrel;have HOWN:=Aa hown;have e2:=HE2.out wr (by first|exact hb|(rw[HGB.out];exact hb));have hgbs:gb≤wr.heap.size:=by rw[←HGB.out];exact hb.size
  clear hown;by_cases hlt:k < gn
  ·have hJ2:(k:Int) < (gn:Int):=by omega
   obtain⟨b2,off2,g,hpe2,hg,hE0,v2,hcv0,q2,c2',rfl,_,_,_,hml⟩:=HGR.out.at_ (i:=k) (by rw[HGN.out];exact hlt);have hcv:=Ax (show Below w.heap.size w wr by rw[HGB.out];exact hb) hcv0;subst hpe2;have HG:=Aa hg;have hah:=HAH.out k g hg wr (by first|exact hb|(rw[HGB.out];exact hb));have HML:=Aa hml;have hgm:=HMEM.out g (Ad hg);have hfw:=HFEW.out g (Ad hg);have HGM:=Aa hgm;obtain⟨mb,hmb⟩:∃mb,mb=metB l i k (Ff o g.sym):=⟨_,rfl⟩
   rw[←hmb]at hah;have hst:Dk l i o (k+1)=bif mb then Dy (Dk l i o k) g.members true else Dk l i o k:=by
    conv=>lhs;unfold Dk
    rw[hg];simp only;rw[←hmb]
   have HST:=Aa hst;have HAX:=Aa hah;generalize hmn:g.members.length=mn at*;have HMN:=Aa hmn;clear hg hah hmb hst hml hgm hE0 hmn;cases mb with
   |false=>
    have hst2:Hid (Dk l i o (k+1)=Dk l i o k):=Aa HST.out;go_wp2_with (first|(go_at_call 109;refine HAX.out.mono ?_;rintro e w2 ⟨rfl,hb2⟩)|fail)
    have hown2:=Bd HOWN.out hb2;have hbw2:=hb.trans (hb2.mono hgbs);go_roundw
    case rel=>exact⟨k+1,hlt,by go_num,by rw[hst2.out];exact hown2,hbw2⟩
    case measure=>simp[intOf];omega
   |true=>
    have hst2:Hid (Dk l i o (k+1)=Dy (Dk l i o k) g.members true):=Aa HST.out;go_upto_region 6 with(first|(go_at_call 109;refine HAX.out.mono ?_;rintro e w2 ⟨rfl,hb2⟩)|fail)
    have hown2:=Bd HOWN.out hb2;have hbw2:=hb.trans (hb2.mono hgbs);have e2':=Ax hb2 e2;have hcv':=Ax hb2 hcv;have hgbs2:gb≤w2.heap.size:=Aw hgbs hb2.size;have HOWN2:=Aa hown2;have HSTART:=Aa (show w2.ownsRow gb 4 1 (.slice (some ⟨gb,0,none⟩) qn qn) qn ((Dy (Dk l i o k) (g.members.take 0) true).map Value.bool) from hown2);clear hb2 hown2 e2 hcv hcv0 HAX;go_wp2_with fail
    go_loopw [8] (fun r8 wx=>∃j:Nat,j≤mn∧r8= .int .i64 (j:Int)∧wx.ownsRow gb 4 1 (.slice (some ⟨gb,0,none⟩) qn qn) qn ((Dy (Dk l i o k) (g.members.take j) true).map Value.bool)∧Below gb w wx) (fun r8 _=>mn - (intOf r8).toNat)
    case atStart=>exact⟨0,Ak _,rfl,HSTART.out,hbw2⟩
    case round=>
     obtain⟨j,hj,rfl,hown3,hb3⟩:=hrel;have hgbs3:gb≤wr.heap.size:=by rw[←HGB.out];exact hb3.size
     by_cases hjl:j < mn
     ·obtain⟨b5,off5,x,hpe5,hx,hcx0⟩:=HML.out.at_ (i:=j) (by rw[HMN.out];exact hjl);subst hpe5;have hcx:=Ax (show Below w.heap.size w wr by rw[HGB.out];exact hb3) hcx0.1;rw[Nat.mul_one]at hcx;have hxm:=HGM.out x (Ad hx);obtain⟨m,hm⟩:∃m:Nat,x=((m+1:Nat):Int):=⟨(x - 1).toNat,by omega⟩
      have hmq:m < qn:=by rw[HQN.out]at hxm;omega
      have hlen:(Dy (Dk l i o k) (g.members.take j) true).length=qn:=by rw[Pb,Gg,HQN.out]
      have hf:=hown3.frozenAt m;obtain⟨bv,hbv⟩:∃bv,(Dy (Dk l i o k) (g.members.take j) true)[m]?=some bv:=⟨_,Ae (by omega)⟩
      have hcl:wr.cell? ⟨gb,m,none⟩=some (.bool bv):=(hown3.cellAt m (by omega)).trans (by rw[List.getElem?_map,hbv];rfl);have hst:=hown3.stored m (.bool true);have hset:((Dy (Dk l i o k) (g.members.take j) true).map Value.bool).set m (.bool true)=(Dy (Dk l i o k) (g.members.take (j+1)) true).map Value.bool:=by
       rw[Jhm hx,Vp,List.map_set,hm,show(((m+1:Nat):Int) - 1).toNat=m by omega]
      rw[hset]at hst;have HST3:=Aa hst.1;have k1:IntKind.i64.wrap (x - 1)=(m:Int):=by rw[show x - 1=(m:Int) by omega];exact Al _ (by omega)
      have hJ3:(j:Int) < (mn:Int):=by omega
      have hJ4:(m:Int) < (qn:Int):=by omega
      have hJ5:(0:Int)≤(m:Int):=by omega
      have hJ6:(0:Int)≤(j:Int):=by omega
      clear hx hcx0 hxm hm hlen hbv hst hset hown3;go_wp2_with fail
      go_roundw
      case rel=>exact⟨j+1,hjl,by go_num,HST3.out,hb3.setCell (Af _) _⟩
      case measure=>simp[intOf];omega
     ·have hJ3:¬(j:Int) < (mn:Int):=by omega
      have hown4:wr.ownsRow gb 4 1 (.slice (some ⟨gb,0,none⟩) qn qn) qn ((Dk l i o (k+1)).map Value.bool):=by
       rw[hst2.out];rw[List.take_of_length_le (by rw[HMN.out];omega)]at hown3;exact hown3
      have HO4:=Aa hown4;clear hown3 hown4;go_wp2_with fail
      go_roundw
      case rel=>exact⟨k+1,hlt,by go_num,HO4.out,hb3⟩
      case measure=>simp[intOf];omega
  ·obtain rfl:k=gn:=by omega
   have hJ2:¬(k:Int) < (k:Int):=by omega
   go_wp2_with fail
   go_ret;exact⟨_,_,rfl,HOWN.out,hb⟩
def Qc(d:Bb):List Value:= [.string d.name,.int .i64 (d.obj:Int),.int .i64 (d.sym:Int)]
theorem Zh(d:Bb):∀u∈Qc d,u.oneCell'=true:=fun u hu=>by
 simp only[Qc,List.mem_cons,List.not_mem_nil,or_false]at hu;rcases hu with rfl|rfl|rfl<;>rfl
theorem Tryz.infoDefR:(Tryz.prog.info? 63).map (fun i=>(i.zero,i.size,i.bytes))=some (some (.agg #[.string ⟨#[]⟩,.int .i64 0,.int .i64 0]),3,32):=by kernel_rfl
theorem Ro(w:World)(d:Bb)(T:TypeId):∀j u,(Qc d)[j]?=some u→(w.alloc (.cells #[.string d.name,.int .i64 (d.obj:Int),.int .i64 (d.sym:Int)] T)).cell? ((⟨w.heap.size,0,none⟩:Addr).add j)=some u:=by
 have h:=Ah w (.cells #[.string d.name,.int .i64 (d.obj:Int),.int .i64 (d.sym:Int)] T);intro j u hj;have ha:(⟨w.heap.size,0,none⟩:Addr).add j=⟨w.heap.size,j,none⟩:=by unfold Addr.add;split<;>simp_all
 rw[ha];exact(Am _ _ _ _ _ (0,0) h).trans (by simpa[Qc]using hj)
theorem Jmw{w:World}{B:Nat}{T:TypeId}{v:Value}{l:List Bb}(h:w.ownsRow B T 3 v l.length (l.flatMap Qc)):IsL 3 Dg w v l:=by
 have:=Mo (k:=3) (E:=Dg) (f:=Qc) (g:=id) (fun _=>rfl) h (fun d _ b o hc=>⟨by simpa using hc 0 _ rfl,hc 1 _ rfl,hc 2 _ rfl⟩);simpa using this
theorem Si{α:Type}{l:List α}{k:Nat}{x:α}(h:l[k]?=some x):l.take (k+1)=l.take k++ [x]:=by
 rw[List.take_succ_eq_append_getElem (Ab.1 h).1,(Ab.1 h).2]
def Ge(l:List Bb)(d:Bb):List Bb:=l.filter fun e=>sLt e.name d.name
def Es(l:List Bb)(d:Bb):List Bb:=l.filter fun e=>sLt d.name e.name
theorem sGt(a b:ByteArray):(!(sLt a b || sEq a b))=sLt b a:=by
 cases h1:sLt a b with
 |true=>
  cases h2:sLt b a with
  |false=>rfl
  |true=>have:=Oq h1 h2;rw[Gw]at this;cases this
 |false=>
  cases h2:sEq a b with
  |true=>obtain rfl:=Df.1 h2;rw[Gw];rfl
  |false=>rw[Ub h2 h1];rfl
theorem Jfv(a b:ByteArray)(W:World):(binOp .gtr 9 (.string a) (.string b)).run Tryz.prog W= .ok (.bool (sLt b a)) W:=by
 rw[←sGt];simp[binOp,Op.stringOp];rfl
theorem Jdq{l:List Bb}{k:Nat}{e d:Bb}(h:l[k]?=some e):Ge (l.take (k+1)) d=Ge (l.take k) d++bif sLt e.name d.name then [e]else []:=by
 unfold Ge;rw[Si h,List.filter_append];congr 1
theorem Je0{l:List Bb}{k:Nat}{e d:Bb}(h:l[k]?=some e):Es (l.take (k+1)) d=Es (l.take k) d++bif sLt d.name e.name then [e]else []:=by
 unfold Es;rw[Si h,List.filter_append];congr 1
theorem Ze(l:List Bb)(d:Bb):(Ge l d).length≤l.length:=List.length_filter_le _ _
theorem Ji0(l:List Bb)(d:Bb):(Es l d).length≤l.length:=List.length_filter_le _ _
theorem Jn5{l:List Bb}{d e:Bb}{k:Nat}(h:l[k]?=some e)(hq:sEq e.name d.name=true):Fs l d=l:=by
 unfold Fs;rw[List.any_eq_true.2 ⟨e,Ad h,hq⟩];rfl
theorem Jp9{l:List Bb}{d:Bb}(h:l.any (fun e=>sEq e.name d.name)=false):Fs l d=Ge l d++ [d]++Es l d:=by
 unfold Fs;rw[h];rfl
theorem Jmm(p:Option Addr)(n c:Nat)(l:List Bb)(d:Bb)(w:World)(h:Bg 3 Dg w p l)(hn:l.length=n)(hc:n≤c)(hm:c≤maxLen)(hp:p=none→c=0)(hnb:n≤100000):
 Calls Tryz.prog 58 #[.slice p n c,.agg (Dh d)] w fun e w'=>∃q m c',e= .returned (.slice q m c')∧IsL 3 Dg w' (.slice q m c') (Fs l d)∧m=(Fs l d).length∧Below w.heap.size w w':=by
 obtain⟨i0,gi,gz0,gz1,gz2⟩:=info_parts Tryz.infoDefR;have GI:=Aa gi;have G0:=Aa gz0;have G1:=Aa gz1;have G2:=Aa gz2;have hb1:Below w.heap.size w (w.alloc (.cells #[.string d.name,.int .i64 (d.obj:Int),.int .i64 (d.sym:Int)] 63)):=(Ag _ w).alloc (Af _) _;have hg1:=Ah w (.cells #[.string d.name,.int .i64 (d.obj:Int),.int .i64 (d.sym:Int)] 63);have hs1:(w.alloc (.cells #[.string d.name,.int .i64 (d.obj:Int),.int .i64 (d.sym:Int)] 63)).heap.size=w.heap.size+1:=by simp
 have HH:=Aa h;have HN:=Aa hn;have HP:=Aa hp;have HS1:=Aa hs1;have hm':=hm;unfold maxLen at hm';clear gi gz0 gz1 gz2 h hn hp hs1;go_enter Tryz.func58,Tryz.ntmps58;go_upto_region 1 with fail
 generalize w.alloc (.cells #[.string d.name,.int .i64 (d.obj:Int),.int .i64 (d.sym:Int)] 63)=w1 at*;generalize hgb:w.heap.size=gb at*;have HGB:=Aa hgb;have HG1:=Aa hg1;clear hgb hg1;go_wp2_with fail
 go_loopw [5,6] (fun r5 r6 wr=>∃(k:Nat)(pa:Option Addr)(ca:Nat),k≤n∧r6= .int .i64 (k:Int)∧r5= .slice pa (Ge (l.take k) d).length ca∧wr.ownsRow (gb+1) 63 3 (.slice pa (Ge (l.take k) d).length ca) (Ge (l.take k) d).length ((Ge (l.take k) d).flatMap Qc)∧(l.take k).any (fun e=>sEq e.name d.name)=false∧Below (gb+1) w1 wr) (fun _ r6 _=>n - (intOf r6).toNat)
 case atStart=>exact⟨0,none,0,Ak _,rfl,rfl,Aq _ _ _ _,rfl,by rw[←HS1.out];exact Ag _ _⟩
 case round=>
  obtain⟨k,pa,ca,hk,rfl,rfl,hown,hany,hbr⟩:=hrel;have HOWN:=Aa hown;have HANY:=Aa hany;have hbw:Below gb w wr:=hb1.trans (hbr.mono (by omega));have hgr:=(hbr.block gb (by omega)).trans HG1.out;have HGR:=Aa hgr;obtain⟨⟨x0,x1,x2⟩,_⟩:=Bj _ _ _ _ _ _ hgr;have hszr:gb+1≤wr.heap.size:=by rw[←HS1.out];exact hbr.size
  clear hown hany hgr;by_cases hlt:k < n
  ·obtain⟨b,off,e,hpe,he,f0,f1,f2⟩:=(HH.out.below Dg.keeps (show Below w.heap.size w wr by rw[HGB.out];exact hbw)).at_ (i:=k) (by rw[HN.out];exact hlt);subst hpe;have hK:(k:Int) < (n:Int):=by omega
   have hK0:(0:Int)≤(k:Int):=by omega
   have HSN:=Aa (Jdq (d:=d) he);have HAN:Hid ((l.take (k+1)).any (fun e=>sEq e.name d.name)=sEq e.name d.name):=Aa (by rw[Si he,List.any_append,HANY.out];simp);have HPY:=Aa (Jn5 (d:=d) he);obtain⟨q1,hq1⟩:∃q1,q1=sEq e.name d.name:=⟨_,rfl⟩
   obtain⟨q2,hq2⟩:∃q2,q2=sLt e.name d.name:=⟨_,rfl⟩
   rw[←hq1]at HAN HPY;rw[←hq2]at HSN;have hq3:(e.name.toList==d.name.toList)=q1:=hq1.symm;have hq4:Op.bytesLess e.name.toList d.name.toList=q2:=hq2.symm;have hbl:=Ze (l.take k) d;have hbl2:(Ge (l.take k) d).length≤100000:=by rw[List.length_take]at hbl;omega
   clear he hq1 hq2 hbl;generalize hacc:Ge (l.take k) d=acc at*;go_upto_region 5 with fail
   go_quiet (fail);cases q1 with
   |true=>
    have hE:Hid (Fs l d=l):=Aa (HPY.out rfl);have hbq:Below gb w (wr.drewN nq):=Bq hbw _;generalize wr.drewN nq=wq at*;clear f0 f1 f2 x0 x1 x2;go_wp2_with fail
    go_ret;refine⟨_,_,_,rfl,?_,by rw[hE.out];exact HN.out.symm,by rw[HGB.out];exact hbq⟩;rw[hE.out];exact⟨_,_,by rw[HN.out],by rw[HN.out];exact hc,hm,HP.out,HH.out.below Dg.keeps (show Below w.heap.size w wq by rw[HGB.out];exact hbq)⟩
   |false=>
    clear HPY;have hd1:Below wr.heap.size wr (wr.drewN nq):=Bq (Ag _ wr) _;have HO1:=Aa (Bd HOWN.out hd1);have hbr1:=hbr.trans (hd1.mono hszr);have hz1:gb+1≤(wr.drewN nq).heap.size:=Aw hszr hd1.size;have f0':=Ax hd1 f0;have f1':=Ax hd1 f1;have f2':=Ax hd1 f2;have x0':=Ax hd1 x0;generalize wr.drewN nq=w5 at*;clear f0 f1 f2 x0 x1 x2 hd1 HOWN HGR hbr hbw hszr;go_upto_region 7 with fail
    go_quiet (fail);have hd2:Below w5.heap.size w5 (w5.drewN nq):=Bq (Ag _ w5) _;have HO2:=Aa (Bd HO1.out hd2);have hbr2:=hbr1.trans (hd2.mono hz1);have hz2:gb+1≤(w5.drewN nq).heap.size:=Aw hz1 hd2.size;have f0:=Ax hd2 f0';have f1:=Ax hd2 f1';have f2:=Ax hd2 f2';generalize w5.drewN nq=w6 at*;clear f0' f1' f2' x0' hd2 HO1 hbr1 hz1;cases q2 with
    |false=>
     have hst:Hid (Ge (l.take (k+1)) d=acc):=Aa (by rw[HSN.out];simp);go_wp2_with fail
     go_roundw
     case rel=>exact⟨k+1,pa,ca,hlt,by go_num,by rw[hst.out],by rw[hst.out];exact HO2.out,HAN.out,hbr2⟩
     case measure=>simp[intOf];omega
    |true=>
     have hst:Hid (Ge (l.take (k+1)) d=acc++ [e]):=Aa (by rw[HSN.out];rfl);go_upto_region 8 with fail
     go_wp2_with (at_builtin;refine wpList_append_own _ rfl (.tmp 31) (.tmp 36) 52 rfl (gb+1) 63 i0 _ 3 32 Tryz.underlying52 GI.out G0.out G1.out G2.out rfl (by decide) _ acc.length _ rfl (HO2.out.alloc _) ⟨w6.heap.size,0,none⟩ 1 1 (Qc e) rfl rfl (Ro w6 e 63) (Zh e) (by unfold maxLen;omega) (by omega) (by simp;omega) ?_)
     intro v9 w9 hown9 hg9 _;obtain⟨p9,c9,rfl,_,_,_⟩:=Bl hown9;rw[←Ox]at hown9;have hb9:Below (gb+1) w1 w9:=(hbr2.trans (((Ag _ w6).alloc (Af _) (.cells #[.string e.name,.int .i64 (e.obj:Int),.int .i64 (e.sym:Int)] 63)).mono hz2)).grown hg9 (by simp;omega) (fun k hk=>(HO2.out.lt k hk).1);have HO9:=Aa hown9;clear hown9 hg9 f0 f1 f2;go_wp2_with fail
     go_roundw
     case rel=>exact⟨k+1,p9,c9,hlt,by go_num,by rw[hst.out,List.length_append];rfl,by rw[hst.out,List.length_append];exact HO9.out,HAN.out,hb9⟩
     case measure=>simp[intOf];omega
  ·obtain rfl:k=n:=by omega
   have hK:¬(k:Int) < (k:Int):=by omega
   have hany:l.any (fun e=>sEq e.name d.name)=false:=by have:=HANY.out;rw[List.take_of_length_le (by rw[HN.out];exact Af _)]at this;exact this
   have hE:Hid (Fs l d=Ge l d++ [d]++Es l d):=Aa (Jp9 hany);have HNO:Hid (∀e∈l,sEq e.name d.name=false):=Aa (fun e he=>by have:=List.any_eq_false.1 hany e he;simpa using this);have hown:=HOWN.out;rw[List.take_of_length_le (by rw[HN.out];exact Af _)]at hown;have hbl:=Ze l d;have hbl3:(Ge l d).length≤100000:=by have:=HN.out;omega
   rw[List.take_of_length_le (by rw[HN.out];exact Af _)];have HOWN2:=Aa hown;have HBR:=Aa hbr;clear hany hown hbl;generalize hac:Ge l d=acc at*;go_upto_region 9 with fail
   go_wp2_with (at_builtin;refine wpList_append_own _ rfl (.tmp 38) (.tmp 40) 52 rfl (gb+1) 63 i0 _ 3 32 Tryz.underlying52 GI.out G0.out G1.out G2.out rfl (by decide) _ acc.length _ rfl (HOWN2.out.alloc _) ⟨wr.heap.size,0,none⟩ 1 1 (Qc d) rfl rfl (Ro wr d 63) (Zh d) (by unfold maxLen;omega) (by omega) (by simp;omega) ?_)
   intro v9 w9 hown9 hg9 _;obtain⟨p9,c9,rfl,_,_,_⟩:=Bl hown9;rw[←Ox]at hown9;have hb9:Below (gb+1) w1 w9:=(HBR.out.trans (((Ag _ wr).alloc (Af _) (.cells #[.string d.name,.int .i64 (d.obj:Int),.int .i64 (d.sym:Int)] 63)).mono hszr)).grown hg9 (by simp;omega) (fun k hk=>(HOWN2.out.lt k hk).1);have HO9:=Aa hown9;have HB9:=Aa hb9;obtain⟨m9,hm9⟩:∃m9,m9=acc++ [d]:=⟨_,rfl⟩
   have hml:m9.length=acc.length+1:=by rw[hm9];simp
   rw[←hm9]at HO9;rw[←hml]at HO9⊢;have HM9:=Aa hm9;have hmb:m9.length≤100001:=by omega
   clear hown9 hg9 hb9 x0 x1 x2 hbw hbr HOWN HANY HGR hm9 hml HOWN2 HBR;go_wp2_with fail
   go_loopw [5,7] (fun r5 r7 wr=>∃(j:Nat)(pa:Option Addr)(ca:Nat),j≤k∧r7= .int .i64 (j:Int)∧r5= .slice pa (m9++Es (l.take j) d).length ca∧wr.ownsRow (gb+1) 63 3 (.slice pa (m9++Es (l.take j) d).length ca) (m9++Es (l.take j) d).length ((m9++Es (l.take j) d).flatMap Qc)∧Below (gb+1) w1 wr) (fun _ r7 _=>k - (intOf r7).toNat)
   case atStart=>exact⟨0,p9,c9,Ak _,rfl,by rw[show Es (l.take 0) d= [] from rfl,List.append_nil],by rw[show Es (l.take 0) d= [] from rfl,List.append_nil];exact HO9.out,HB9.out⟩
   case round=>
    obtain⟨j,pa,ca,hj,rfl,rfl,hown,hbr⟩:=hrel;have HOWN:=Aa hown;have hbw:Below gb w wr:=hb1.trans (hbr.mono (by omega));have hgr:=(hbr.block gb (by omega)).trans HG1.out;obtain⟨⟨x0,x1,x2⟩,_⟩:=Bj _ _ _ _ _ _ hgr;have hszr:gb+1≤wr.heap.size:=by rw[←HS1.out];exact hbr.size
    clear hown hgr;by_cases hlt:j < k
    ·obtain⟨b,off,e,hpe,he,f0,f1,f2⟩:=(HH.out.below Dg.keeps (show Below w.heap.size w wr by rw[HGB.out];exact hbw)).at_ (i:=j) (by rw[HN.out];exact hlt);subst hpe;have hJ:(j:Int) < (k:Int):=by omega
     have hJ0:(0:Int)≤(j:Int):=by omega
     have HSN:=Aa (Je0 (d:=d) he);have hne:=HNO.out e (Ad he);obtain⟨q2,hq2⟩:∃q2,q2=sLt d.name e.name:=⟨_,rfl⟩
     rw[←hq2]at HSN;have hgt:∀W,(binOp .gtr 9 (.string e.name) (.string d.name)).run Tryz.prog W= .ok (.bool q2) W:=fun W=>by rw[Jfv,hq2]
     have hbl:=Ji0 (l.take j) d;have hbl2:(Es (l.take j) d).length≤100000:=by rw[List.length_take]at hbl;omega
     have hll:(m9++Es (l.take j) d).length=m9.length+(Es (l.take j) d).length:=List.length_append;have hll2:(m9++Es (l.take j) d).length≤300000:=by omega
     clear he hq2 hbl hll hne;generalize hacc:m9++Es (l.take j) d=ac2 at*;have HAC:=Aa hacc;clear hacc;go_upto_region 13 with fail
     cases q2 with
     |false=>
      go_quiet (fail);have hd2:Below wr.heap.size wr (wr.drewN nq):=Bq (Ag _ wr) _;have HO2:=Aa (Bd HOWN.out hd2);have hbr2:=hbr.trans (hd2.mono hszr);have hz2:gb+1≤(wr.drewN nq).heap.size:=Aw hszr hd2.size;have f0':=Ax hd2 f0;have f1':=Ax hd2 f1;have f2':=Ax hd2 f2;generalize wr.drewN nq=w6 at*;clear f0 f1 f2 x0 x1 x2 hd2 HOWN hbr hbw hszr;have hst:Hid (m9++Es (l.take (j+1)) d=ac2):=Aa (by rw[HSN.out,←HAC.out];simp);go_wp2_with fail
      go_roundw
      case rel=>exact⟨j+1,pa,ca,hlt,by go_num,by rw[hst.out],by rw[hst.out];exact HO2.out,hbr2⟩
      case measure=>simp[intOf];omega
     |true=>
      go_quiet (fail);have hd2:Below wr.heap.size wr (wr.drewN nq):=Bq (Ag _ wr) _;have HO2:=Aa (Bd HOWN.out hd2);have hbr2:=hbr.trans (hd2.mono hszr);have hz2:gb+1≤(wr.drewN nq).heap.size:=Aw hszr hd2.size;have f0':=Ax hd2 f0;have f1':=Ax hd2 f1;have f2':=Ax hd2 f2;generalize wr.drewN nq=w6 at*;clear f0 f1 f2 x0 x1 x2 hd2 HOWN hbr hbw hszr;have hst:Hid (m9++Es (l.take (j+1)) d=ac2++ [e]):=Aa (by rw[HSN.out,←HAC.out];simp);go_upto_region 14 with fail
      go_wp2_with (at_builtin;refine wpList_append_own _ rfl (.tmp 56) (.tmp 61) 52 rfl (gb+1) 63 i0 _ 3 32 Tryz.underlying52 GI.out G0.out G1.out G2.out rfl (by decide) _ ac2.length _ rfl (HO2.out.alloc _) ⟨w6.heap.size,0,none⟩ 1 1 (Qc e) rfl rfl (Ro w6 e 63) (Zh e) (by unfold maxLen;omega) (by omega) (by simp;omega) ?_)
      intro v9 w9 hown9 hg9 _;obtain⟨p9,c9,rfl,_,_,_⟩:=Bl hown9;rw[←Ox]at hown9;have hb9:Below (gb+1) w1 w9:=(hbr2.trans (((Ag _ w6).alloc (Af _) (.cells #[.string e.name,.int .i64 (e.obj:Int),.int .i64 (e.sym:Int)] 63)).mono hz2)).grown hg9 (by simp;omega) (fun k hk=>(HO2.out.lt k hk).1);have HO9:=Aa hown9;clear hown9 hg9 f0' f1' f2';go_wp2_with fail
      go_roundw
      case rel=>exact⟨j+1,p9,c9,hlt,by go_num,by rw[hst.out,List.length_append];rfl,by rw[hst.out,List.length_append];exact HO9.out,hb9⟩
      case measure=>simp[intOf];omega
    ·obtain rfl:j=k:=by omega
     have hJ:¬(j:Int) < (j:Int):=by omega
     have hE2:Hid (m9++Es (l.take j) d=Fs l d):=Aa (by rw[hE.out,HM9.out,List.take_of_length_le (by rw[HN.out];exact Af _)]);have hisl:=Jmw HOWN.out;rw[hE2.out]at hisl⊢;have HIS:=Aa hisl;clear hisl x0 x1 x2;go_wp2_with fail
     go_ret;exact⟨_,_,_,rfl,HIS.out,rfl,by rw[HGB.out];exact hbw⟩
theorem Yu{xs:List Sy}{D:List (List Bool)}{x:Sy}:∀{ys:List Sy}{st:List Bb × Bool},Dl xs D (ys++ [x]) st=(Dl xs D ys st).bind (refStep xs D x)
 | [],st=>by
   show(match refStep xs D x st with|none=>none|some st'=>some st')=refStep xs D x st;cases refStep xs D x st<;>rfl
 |y::ys,st=>by
  show(match refStep xs D y st with|none=>none|some st'=>Dl xs D (ys++ [x]) st')=(match refStep xs D y st with|none=>none|some st'=>Dl xs D ys st').bind (refStep xs D x);cases refStep xs D y st with
  |none=>rfl
  |some st'=>exact Yu
theorem Xl{xs:List Sy}{D:List (List Bool)}{r:List Sy}:∀{ys:List Sy}{st:List Bb × Bool},Dl xs D ys st=none→Dl xs D (ys++r) st=none
 | [],st,h=>by cases h
 |y::ys,st,h=>by
  have h:(match refStep xs D y st with|none=>none|some st'=>Dl xs D ys st')=none:=h;show(match refStep xs D y st with|none=>none|some st'=>Dl xs D (ys++r) st')=none;cases hs:refStep xs D y st with
  |none=>rfl
  |some st'=>rw[hs]at h;exact Xl h
theorem Wj{α:Type}{p q:α→Bool}(h:∀x,p x=true→q x=false):∀l:List α,(l.filter p).length+(l.filter q).length≤l.length
 | []=>Af _
 |x::l=>by
  have ih:=Wj h l;rw[List.filter_cons,List.filter_cons];cases hp:p x with
  |true=>rw[h x hp];simp;omega
  |false=>cases hq:q x<;>simp<;>omega
theorem Jn6(l:List Bb)(d:Bb):(Fs l d).length≤l.length+1:=by
 unfold Fs;cases l.any (fun e=>sEq e.name d.name)with
 |true=>exact Nat.le_succ _
 |false=>
  have:=Wj (p:=fun e:Bb=>sLt e.name d.name) (q:=fun e=>sLt d.name e.name) (fun x hx=>by
   cases hq:sLt d.name x.name with
   |false=>rfl
   |true=>have:=Oq hx hq;rw[Gw]at this;cases this) l
  simp only[cond_false,List.length_append,List.length_cons,List.length_nil];omega
theorem Jf6{xs:List Sy}{D:List (List Bool)}{x:Sy}{st st':List Bb × Bool}(h:refStep xs D x st=some st'):st'.1.length≤st.1.length+1:=by
 unfold refStep at h;cases h0:(x.2.2.bind==0)with
 |true=>rw[h0]at h;cases h;exact Nat.le_succ _
 |false=>
  rw[h0]at h;simp only[cond_false]at h;cases h1:decide (1 < (hitsIn xs D x.2.2.name 1).length)with
  |true=>rw[h1]at h;cases h
  |false=>
   rw[h1]at h;simp only[cond_false]at h;cases h2:findIn xs D x.2.2.name with
   |none=>rw[h2]at h;cases h;exact Nat.le_succ _
   |some d=>rw[h2]at h;cases h;exact Jn6 _ _
theorem Qy{xs:List Sy}{D:List (List Bool)}:∀{ys:List Sy}{st st':List Bb × Bool},Dl xs D ys st=some st'→st'.1.length≤st.1.length+ys.length
 | [],st,st',h=>by cases h;exact Af _
 |y::ys,st,st',h=>by
  have h:(match refStep xs D y st with|none=>none|some st'=>Dl xs D ys st')=some st':=h;cases hs:refStep xs D y st with
  |none=>rw[hs]at h;cases h
  |some s1=>
   rw[hs]at h;have h1:=Jf6 hs;have h2:=Qy h;simp only[List.length_cons];omega
theorem FrT.trans'{N:Nat}{Ts Us:List TypeId}{a b c:World}(h:FrT N Ts a b)(k:FrT N Us b c):FrT N (Ts++Us) a c:=
 (h.mono fun _ hT=>List.mem_append.2 (.inl hT)).trans (k.mono fun _ hT=>List.mem_append.2 (.inr hT))
def Od(w:World)(base:Nat)(vs:List Value)(l:List Az)(i:Nat):Prop:=∀j o,j < i→l[j]?=some o→∃v,vs[j]?=some v∧w.ownsRow base 4 1 v o.secs.length ((Jh l j).map Value.bool)
theorem Od.fr{w w':World}{base N:Nat}{vs:List Value}{l:List Az}{i:Nat}{Ts:List TypeId}(h:Od w base vs l i)(hf:FrT N Ts w w')(hT:4∉Ts):Od w' base vs l i:=fun j o hj ho=>by
 obtain⟨v,h1,h2⟩:=h j o hj ho;exact⟨v,h1,hf.owns h2 hT⟩
theorem Od.snoc{w:World}{base:Nat}{vs:List Value}{l:List Az}{i:Nat}{o:Az}{v:Value}(h:Od w base vs l i)(ho:l[i]?=some o)(hi:vs.length=i)(hv:w.ownsRow base 4 1 v o.secs.length ((Jh l i).map Value.bool)):Od w base (vs++ [v]) l (i+1):=fun j o' hj ho'=>by
 by_cases hji:j=i
 ·subst hji;rw[ho]at ho';cases ho';exact⟨v,by rw[List.getElem?_append_right (by omega),hi];simp,hv⟩
 ·obtain⟨u,h1,h2⟩:=h j o' (by omega) ho';exact⟨u,by rw[List.getElem?_append_left (by omega)];exact h1,h2⟩
theorem Ja9{w:World}{N base:Nat}{l:List Az}{vs:List Value}{v:Value}(h:w.ownsRow N 138 1 v l.length vs)(hr:Od w base vs l l.length):∃pd cd,v= .slice pd l.length cd∧Er w pd l (dropsOf l):=by
 have hlen:(dropsOf l).length=l.length:=by simp[dropsOf]
 obtain⟨pd,cd,rfl,h1,h2,h3⟩:=Bl h;refine⟨pd,cd,rfl,⟨fun i x hx=>?_,hlen,fun i o ho=>?_⟩⟩
 ·have hi:i < l.length:=by have:=(Ab.1 hx).1;omega
  obtain⟨o,ho⟩:∃o,l[i]?=some o:=⟨_,Ae hi⟩
  obtain⟨u,e1,e2⟩:=hr i o hi ho;rcases h.2 with⟨_,h0⟩|⟨g,cap,cur,e,_⟩
  ·omega
  ·cases e;refine⟨g,0,rfl,u,?_,?_⟩
   ·rw[Nat.zero_add,Nat.mul_one,h.cellAt i (by omega)];exact e1
   ·have hxd:x=Jh l i:=by
     unfold dropsOf at hx;rw[List.getElem?_map,List.getElem?_range hi,Option.map_some]at hx;exact(Option.some.inj hx).symm
    rw[hxd];exact Jbc e2
 ·have hi:=(Ab.1 ho).1;have e1:Cz (dropsOf l) i=Jh l i:=by
   unfold Cz dropsOf;rw[List.getElem?_map,List.getElem?_range hi];rfl
  rw[e1];unfold Jh;rw[ho];exact Gg l i o _
theorem Lp{fn:Func}{p u:Tmp}(h:fn.results= #[.cell p 54,.tmp u])(tmps:Array Value)(w:World)(g:Nat)(v0 v1 b:Value)(hp:tmps.getD p undef= .pointer (some ⟨g,0,none⟩))(hu:tmps.getD u undef=b)
 (hg:w.heap[g]?=some (.cells #[v0,v1] 54 (0,0))):(results fn tmps).run Tryz.prog w= .ok (.tuple #[.agg #[v0,v1],b]) w:=by
 obtain⟨⟨r0,r1⟩,_⟩:=Bz _ _ _ _ _ hg;rw[results_cell_tmp h,hp,hu];go_simp
def Uy(l:List Az)(mb:Bool)(w':World)(n:Int)(v0 v1:Value):Prop:=
 mb=false∧n=1∧v0=Cb∧v1=Cb∨mb=true∧(Dl (Bc Az.syms l l.length) (dropsOf l) (Bc Az.syms l l.length) ([],false)=none∧n=3∧v0=Cb∧v1=Cb∨
  ∃defs u,Dl (Bc Az.syms l l.length) (dropsOf l) (Bc Az.syms l l.length) ([],false)=some (defs,u)∧(u=true∧n=4∧v0=Cb∧v1=Cb∨u=false∧n=0∧Vh w' v0 v1 (dropsOf l) defs))
def Jcf(l:List Az)(mb:Bool)(w:World)(e:Ending)(w':World):Prop:=∃n v0 v1,e= .returned (.tuple #[.agg #[v0,v1],.int .i64 n])∧Uy l mb w' n v0 v1∧Below w.heap.size w w'
theorem Jkb{w:World}{g o:Nat}{v0 v1:Value}{T:TypeId}(h:w.heap[g]?=some (.cells #[v0,v1] T (0,0))):w.cell? ⟨g,o,none⟩= #[v0,v1][o]?:=Am w g _ _ _ (0,0) h
theorem Wy{w:World}{g k:Nat}{p q:Option Addr}{n m c d:Nat}{v x:Value}{T:TypeId}{defs:List Bb}(hT:w.heap[g]?=some (.cells #[.slice p n c,.slice q m d] T (0,0)))(h:IsL 3 Dg w x defs):IsL 3 Dg (w.setCell ⟨g,k,none⟩ v) x defs:=by
 obtain⟨p',c',e,h1,h2,h3,h4⟩:=h;refine⟨p',c',e,h1,h2,h3,fun i y hy=>?_⟩;obtain⟨b,off,e,f0,f1,f2⟩:=h4 i y hy;have hne:b≠g:=fun hbg=>by
  subst hbg;rw[Jkb hT]at f0
  match ho:off+i*3 with
  |0=>rw[ho]at f0;simp at f0
  |1=>rw[ho]at f0;simp at f0
  |k+2=>rw[ho]at f0;simp at f0
 exact⟨b,off,e,by rw[World.cell?_setCell_far _ _ _ _ (by first|exact fun e=>hne e|exact fun e=>hne e.symm)];exact f0,by rw[World.cell?_setCell_far _ _ _ _ (by first|exact fun e=>hne e|exact fun e=>hne e.symm)];exact f1,by rw[World.cell?_setCell_far _ _ _ _ (by first|exact fun e=>hne e|exact fun e=>hne e.symm)];exact f2⟩
theorem Jdn{xs:List Sy}{D:List (List Bool)}{x:Sy}{st:List Bb × Bool}(h:(x.2.2.bind==0)=true):refStep xs D x st=some st:=by
 unfold refStep;rw[h];rfl
theorem Jgf{xs:List Sy}{D:List (List Bool)}{x:Sy}{st:List Bb × Bool}(h:(x.2.2.bind==0)=false)(h1:1 < (hitsIn xs D x.2.2.name 1).length):refStep xs D x st=none:=by
 unfold refStep;rw[h,Aj h1];rfl
theorem Jfj{xs:List Sy}{D:List (List Bool)}{x:Sy}{st:List Bb × Bool}(h:(x.2.2.bind==0)=false)(h1:¬1 < (hitsIn xs D x.2.2.name 1).length):refStep xs D x st=bif (findIn xs D x.2.2.name).isSome then some (Fs st.1 (Kj xs D x.2.2.name),st.2)else some (st.1,st.2 || x.2.2.bind==1):=by
 unfold refStep Kj;rw[h,Ai h1];cases findIn xs D x.2.2.name<;>rfl
theorem Jkz{w:World}{g:Nat}{p q p1 q1:Option Addr}{n m c d n1 m1 c1 d1:Nat}{x:Value}{T:TypeId}{defs:List Bb}(hT:w.heap[g]?=some (.cells #[.slice p n c,.slice q m d] T (0,0)))(h:IsL 3 Dg w x defs):IsL 3 Dg ((w.setCell ⟨g,0,none⟩ (.slice p1 n1 c1)).setCell ⟨g,1,none⟩ (.slice q1 m1 d1)) x defs:=
 Wy (p:=p1) (q:=q) (n:=n1) (m:=m) (c:=c1) (d:=d) (An w g 0 _ _ (.slice p1 n1 c1) hT) (Wy hT h)
theorem Jko{w:World}{N base:Nat}{l:List Az}{vs:List Value}{v:Value}(h:w.ownsRow N 138 1 v l.length vs)(hr:Od w base vs l l.length):IsL 1 Fg w v (dropsOf l):=by
 obtain⟨pd,cd,e,hd⟩:=Ja9 h hr;obtain⟨pd',cd',e',h1,h2,h3⟩:=Bl h;rw[e]at e';cases e';have hl:=hd.len;exact⟨pd,cd,by rw[hl];exact e,by rw[hl];first|exact h1|exact h2|exact h3,by first|exact h1|exact h2|exact h3,by first|exact h1|exact h2|exact h3,hd.has⟩
theorem Jdu{m defs:List Bb}(ha:Iw m)(hs:Dz defs)(he:∀d,d∈defs ↔ d∈m)(name:ByteArray):Hc defs name=m.find? fun e=>sEq e.name name:=by
 have hap:Iw defs:=hs.imp fun{a b} hab he=>by rw[he,Gw]at hab;cases hab
 cases h1:Hc defs name with
 |some d=>
  have hn:=Qr h1;have hm:=(Pz ha).1 ((he d).1 (List.mem_of_find?_eq_some h1));rw[hn]at hm;exact hm.symm
 |none=>
  cases h2:m.find? fun e=>sEq e.name name with
  |none=>rfl
  |some d=>
   have hn:=Qr h2;have hd:=(Pz hap).1 ((he d).2 (List.mem_of_find?_eq_some h2));rw[hn]at hd;have h1:defs.find? (fun e=>sEq e.name name)=none:=h1;rw[h1]at hd;cases hd
theorem Ug{l:List Az}(ok:∀o∈l,OkD o)(y:Sy)(hy:y∈Bc Az.syms l l.length)(hd:Cw y.2.2 (Cz (dropsOf l) y.1)=true):y.2.2.bind=1∨y.2.2.bind=2:=by
 obtain⟨_,o,ho,hx⟩:=Gh.1 hy;have hb:=(ok o (Ad ho)).bind y.2.2 (Ad hx);have h0:y.2.2.bind≠0:=fun h0=>by unfold Cw at hd;rw[h0]at hd;cases hd
 omega
def Hi(l:List Az)(mb:Bool):Int × List Bb:=bif mb then(match Dl (Bc Az.syms l l.length) (dropsOf l) (Bc Az.syms l l.length) ([],false)with
 |none=>(3, [])
 |some st=>bif st.2 then(4, [])else(0,st.1))else(1, [])
structure Oe(l:List Az)(defs:List Bb):Prop where
 sorted:Dz defs
 few:defs.length≤100000
 find:∀name,Hc defs name=findIn (Bc Az.syms l l.length) (dropsOf l) name
theorem Jq5{l:List Az}{mb:Bool}{w:World}{n:Int}{v0 v1:Value}(hlen:l.length≤10)(hok:mb=true→∀o∈l,OkD o)(h:Uy l mb w n v0 v1):
 n=(Hi l mb).1∧(n≠0∧v0=Cb∧v1=Cb∨n=0∧mb=true∧Oe l (Hi l mb).2∧Vh w v0 v1 (dropsOf l) (Hi l mb).2):=by
 rcases h with⟨rfl,rfl,rfl,rfl⟩|⟨rfl,h⟩
 ·exact⟨rfl,.inl ⟨by omega,rfl,rfl⟩⟩
 ·have ok:=hok rfl;unfold Hi;rcases Jax (xs:=Bc Az.syms l l.length) (D:=dropsOf l) (bindOf:=Di l) Zd (Ug ok)with⟨t1,t2⟩|⟨m,rd,u,t1,t2,ta,ts,te,tf,tg,tu⟩
  ·rcases h with⟨_,rfl,rfl,rfl⟩|⟨defs,u,k1,_⟩
   ·rw[t2];exact⟨rfl,.inl ⟨by omega,rfl,rfl⟩⟩
   ·rw[t2]at k1;cases k1
  ·rcases h with⟨k1,_⟩|⟨defs,u',k1,kr⟩
   ·rw[t2]at k1;cases k1
   ·have hlt:=Qy k1;rw[t2]at k1;cases k1;rw[t2];have hl2:=Pt ok l.length;simp only[List.length_nil]at hlt;rcases kr with⟨rfl,rfl,rfl,rfl⟩|⟨rfl,rfl,k3⟩
    ·exact⟨rfl,.inl ⟨by omega,rfl,rfl⟩⟩
    ·exact⟨rfl,.inr ⟨rfl,rfl,⟨ts,by show rd.length≤_;omega,fun name=>(Jdu ta ts (fun d=>(te d).symm) name).trans (tf name)⟩,k3⟩⟩
theorem Jg3{l:List Az}{mb:Bool}{w:World}{n:Int}{v0 v1:Value}(hlen:l.length≤10)(hok:mb=true→∀o∈l,OkD o)(h:Jb9 l mb w n v0 v1):
 n=(Hi l mb).1∧(n≠0∧v0=Cb∧v1=Cb∨n=0∧mb=true∧Oe l (Hi l mb).2∧Vh w v0 v1 (dropsOf l) (Hi l mb).2):=by
 rcases h with⟨rfl,rfl,rfl,rfl⟩|⟨rfl,h⟩
 ·exact⟨rfl,.inl ⟨by omega,rfl,rfl⟩⟩
 ·have ok:=hok rfl;unfold Hi;rcases Jax (xs:=Bc Az.syms l l.length) (D:=dropsOf l) (bindOf:=Di l) Zd (Ug ok)with⟨t1,t2⟩|⟨m,rd,u,t1,t2,ta,ts,te,tf,tg,tu⟩
  ·rcases h with⟨_,rfl,rfl,rfl⟩|⟨ms,defs,h1,_⟩
   ·rw[t2];exact⟨rfl,.inl ⟨by omega,rfl,rfl⟩⟩
   ·rw[t1]at h1;cases h1
  ·rcases h with⟨h1,_⟩|⟨ms,defs,h1,hs,hm,hr⟩
   ·rw[t1]at h1;cases h1
   ·rw[t1]at h1;cases h1;obtain rfl:defs=rd:=Xw hs ts fun d=>(hm d).trans (te d);have hf:∀name,Hc defs name=findIn (Bc Az.syms l l.length) (dropsOf l) name:=fun name=>(Jdu ta hs hm name).trans (tf name);have hall:(Bc Az.syms l l.length).all (Hr defs)= !u:=by
     rw[tu,List.not_any_eq_all_not];congr 1;funext x;unfold Hr;rw[hf];cases h1:(x.2.2.bind==1)<;>cases h2:findIn (Bc Az.syms l l.length) (dropsOf l) x.2.2.name<;>simp[bne,h1]
    rw[hall]at hr;have hlt:=Qy t2;have hl2:=Pt ok l.length;simp only[List.length_nil]at hlt;rw[t2];rcases hr with⟨r1,rfl,rfl,rfl⟩|⟨r1,rfl,r2⟩
    ·have hu:u=true:=by simpa using r1
     subst hu;exact⟨rfl,.inl ⟨by omega,rfl,rfl⟩⟩
    ·have hu:u=false:=by simpa using r1
     subst hu;exact⟨rfl,.inr ⟨rfl,rfl,⟨hs,by show defs.length≤_;omega,hf⟩,r2⟩⟩
theorem Jgw{l:List Az}{defs:List Bb}(hlen:l.length≤10)(ok:∀o∈l,OkD o)(h:Oe l defs):∀d∈defs,d.obj≤1000000∧d.sym≤1000000:=fun d hd=>by
 have hap:Iw defs:=h.sorted.imp fun{a b} hab he=>by rw[he,Gw]at hab;cases hab
 have h1:Hc defs d.name=some d:=(Pz hap).1 hd;rw[h.find]at h1;have hh:∀b,Ef d.name (hitsIn (Bc Az.syms l l.length) (dropsOf l) d.name b)=some d→d.obj≤1000000∧d.sym≤1000000:=fun b h=>by
  unfold Ef at h;cases hq:(hitsIn (Bc Az.syms l l.length) (dropsOf l) d.name b).head? with
  |none=>rw[hq]at h;cases h
  |some x=>
   rw[hq]at h;have hm:x∈hitsIn (Bc Az.syms l l.length) (dropsOf l) d.name b:=List.mem_of_mem_head? hq;obtain⟨h1,_⟩:=List.mem_filter.1 hm;obtain⟨h2,o,ho,hx⟩:=Gh.1 (show(x.1,x.2.1,x.2.2)∈_ from h1);have h3:=(ok o (Ad ho)).few.2.1;have h4:=(Ab.1 hx).1;simp only[Option.map_some,Option.some.injEq]at h;have e1:x.1=d.obj:=congrArg Bb.obj h;have e2:x.2.1=d.sym:=congrArg Bb.sym h;omega
 unfold findIn at h1;cases hq:Ef d.name (hitsIn (Bc Az.syms l l.length) (dropsOf l) d.name 1)with
 |some d'=>rw[hq]at h1;cases h1;exact hh 1 hq
 |none=>rw[hq]at h1;exact hh 2 h1
def Yh(l:List UInt8)(w:World)(e:Ending)(w':World):Prop:=∃v,e= .returned v∧w'.ownsRow w.heap.size 5 1 v l.length (l.map u8v)∧Below w.heap.size w w'
theorem Jh9(ad:Addr)(m c:Nat)(w:World):(binOp .eql 31 (.slice (some ad) m c) (.slice none 0 0)).run Tryz.prog w= .ok (.bool false) w:=by kernel_rfl
theorem Jjc(w:World):(binOp .eql 31 (.slice none 0 0) (.slice none 0 0)).run Tryz.prog w= .ok (.bool true) w:=by kernel_rfl
theorem Tn(q:Option Addr)(m c:Nat)(r:List UInt8)(w:World)(h:Has w q r)(hr:r.length=m)(hq:q=none→c=0)(hm:m≤100000000):
 Calls Tryz.prog 199 #[.slice q m c] w (Yh r w):=by
 rcases q with _|ad
 ·have hr0:r= []:=by
   cases r with
   |nil=>rfl
   |cons y r=>obtain⟨a,e,_⟩:=h 0 y rfl;cases e
  subst hr0;obtain rfl:m=0:=hr.symm;obtain rfl:c=0:=hq rfl;have hn:=Jjc w;go_enter Tryz.func199,Tryz.ntmps199;go_wp2_with fail
  go_ret;exact⟨_,rfl,Aq _ _ _ _,Ag _ _⟩
 ·have hz:Below w.heap.size w (w.alloc (.cells #[] 5)):=(Ag _ w).alloc (Af _) _;have hl0:=Jkp w 5;have HQ:=Aa (h.below hz);have HR:=Aa hr;obtain⟨i1,ki,kz0,kz1,kz2⟩:=info_parts Tryz.infoU8;have KI:=Aa ki;have K0:=Aa kz0;have K1:=Aa kz1;have K2:=Aa kz2;have hn:=Jh9 ad m c w;clear ki kz0 kz1 kz2 h hr;go_enter Tryz.func199,Tryz.ntmps199;go_wp2_with (at_builtin;refine Cd _ rfl (.tmp 5) (.tmp 6) 31 rfl w.heap.size 5 i1 Tryz.underlying31 KI.out K0.out K1.out K2.out _ 0 [] rfl hl0 (some ad) m c r rfl HQ.out HR.out (fun h=>by cases h) (by omega) hz.size ?_)
  intro v8 w8 hown8 hgrow8 _;have hb8:Below w.heap.size w w8:=hz.grown hgrow8 hz.size (fun g hg=>(hl0.lt g hg).1);have HO:Hid (w8.ownsRow w.heap.size 5 1 v8 r.length (r.map u8v)):=Aa (by rw[HR.out];simpa using hown8);clear hown8 hgrow8 hl0 hz;go_wp2_with fail
  go_ret;exact⟨_,rfl,HO.out,hb8⟩
theorem Jhy(s:Ca)(x:PcD)(p7 p8:Option Addr)(c7 n8 c8:Nat)(w:World)(hd:Bg 1 Ds w p7 s.data)(hcap:s.data.length≤c7)(hmx:c7≤maxLen)(hn0:p7=none→c7=0)(hs:SecG s)(hx:x∈piecesOf s):
 Calls Tryz.prog 165 #[Ji6 s (.slice p7 s.data.length c7) (.slice p8 n8 c8),.agg #[.int .i64 x.at_,.int .i64 x.size]] w (Yh (Iv s x) w):=by
 have hpf:=(Ey hs.facts).2.2.1 x hx;obtain⟨A,hA⟩:∃A:Nat,x.at_=(A:Int):=⟨x.at_.toNat,by omega⟩
 obtain⟨Z,hZ⟩:∃Z:Nat,x.size=(Z:Int):=⟨x.size.toNat,by omega⟩
 have hdt:Iv s x=bif s.type==1 then win s.data A Z else []:=by unfold Iv;rw[hA,hZ,Int.toNat_natCast,Int.toNat_natCast]
 rw[hA,hZ];have hw2:Below w.heap.size w ((w.alloc (.cells #[.string s.name,.int .i64 s.type,.int .i64 s.flags,.int .i64 s.align,.int .i64 s.ent,.int .i64 s.link,.int .i64 s.size,.slice p7 s.data.length c7,.slice p8 n8 c8] 89)).alloc (.cells #[.int .i64 (A:Int),.int .i64 (Z:Int)] 213)):=((Ag _ w).alloc (Af _) _).alloc (by simp) _;have hS0:((w.alloc (.cells #[.string s.name,.int .i64 s.type,.int .i64 s.flags,.int .i64 s.align,.int .i64 s.ent,.int .i64 s.link,.int .i64 s.size,.slice p7 s.data.length c7,.slice p8 n8 c8] 89)).alloc (.cells #[.int .i64 (A:Int),.int .i64 (Z:Int)] 213)).heap[w.heap.size]?=some (.cells #[.string s.name,.int .i64 s.type,.int .i64 s.flags,.int .i64 s.align,.int .i64 s.ent,.int .i64 s.link,.int .i64 s.size,.slice p7 s.data.length c7,.slice p8 n8 c8] 89 (0,0)):=by
  rw[Below.heap_alloc _ _ _ (by simp)];exact Ah w _
 have hP0:((w.alloc (.cells #[.string s.name,.int .i64 s.type,.int .i64 s.flags,.int .i64 s.align,.int .i64 s.ent,.int .i64 s.link,.int .i64 s.size,.slice p7 s.data.length c7,.slice p8 n8 c8] 89)).alloc (.cells #[.int .i64 (A:Int),.int .i64 (Z:Int)] 213)).heap[w.heap.size+1]?=some (.cells #[.int .i64 (A:Int),.int .i64 (Z:Int)] 213 (0,0)):=by
  have:=Ah (w.alloc (.cells #[.string s.name,.int .i64 s.type,.int .i64 s.flags,.int .i64 s.align,.int .i64 s.ent,.int .i64 s.link,.int .i64 s.size,.slice p7 s.data.length c7,.slice p8 n8 c8] 89)) (.cells #[.int .i64 (A:Int),.int .i64 (Z:Int)] 213);simpa using this
 have hd2:=hd.below Ds.keeps hw2;have HWB:=Aa hw2;have HD:=Aa hd2;obtain⟨res,hres⟩:∃res,res=Iv s x:=⟨_,rfl⟩
 rw[←hres]at hdt⊢;have HDT:=Aa hdt;have hfew:=hs.few;have hkind:=hs.kind;have hpz:=hs.facts.1;rw[hA,hZ]at hpf;obtain⟨gb,hgb⟩:∃gb,gb=w.heap.size:=⟨_,rfl⟩
 have HGB:=Aa hgb;unfold maxLen at hmx;clear hres hdt hs hx hd hd2 hA hZ hw2;go_enter Tryz.func165,Tryz.ntmps165;go_upto_region 1 with fail
 generalize ((w.alloc (.cells #[.string s.name,.int .i64 s.type,.int .i64 s.flags,.int .i64 s.align,.int .i64 s.ent,.int .i64 s.link,.int .i64 s.size,.slice p7 s.data.length c7,.slice p8 n8 c8] 89)).alloc (.cells #[.int .i64 (A:Int),.int .i64 (Z:Int)] 213))=w1 at*;have s1:w1.cell? ⟨w.heap.size,1,none⟩=some (.int .i64 s.type):=(Am w1 w.heap.size 1 _ _ (0,0) hS0).trans rfl;have s7:w1.cell? ⟨w.heap.size,7,none⟩=some (.slice p7 s.data.length c7):=(Am w1 w.heap.size 7 _ _ (0,0) hS0).trans rfl;obtain⟨⟨q0,q1⟩,_⟩:=Bz _ _ _ _ _ hP0;rw[←hgb]at s1 s7 q0 q1⊢;clear hS0 hP0 hgb;cases hty:(s.type==8)with
 |true=>
  have h8:s.type=8:=by simpa using hty
  have hr:Hid (res= []):=Aa (by rw[HDT.out,h8];rfl);go_wp2_with fail
  go_ret;rw[hr.out];exact⟨_,rfl,Aq _ _ _ _,HWB.out⟩
 |false=>
  have h1:s.type=1:=by
   have:¬s.type=8:=by simpa using hty
   rcases hkind with h|h
   ·exact h.1
   ·exact absurd h.1 this
  have hsz:s.size=(s.data.length:Int):=by
   rcases hkind with h|h
   ·exact h.2
   ·omega
  have hAZ:A+Z≤s.data.length:=by omega
  have hr:Hid (res=win s.data A Z):=Aa (by rw[HDT.out,h1];rfl);have hdwin:(win s.data A Z).length=Z:=Pg _ _ _ hAZ;have g1:(0:Int)≤(A:Int):=by omega
  have g2':(A:Int)≤(A:Int)+(Z:Int):=by omega
  have g3:(A:Int)+(Z:Int)≤(c7:Int):=by omega
  have g4:IntKind.i64.wrap ((A:Int)+(Z:Int))=(A:Int)+(Z:Int):=Al _ (by omega);have hfin:∀e w',Yh (win s.data A Z) w1 e w'→Yh res w e w':=fun e w' ⟨v,he,ho,hb⟩=>⟨v,he,by rw[hr.out];exact Cm ho HWB.out.size,HWB.out.trans (hb.mono HWB.out.size)⟩
  have HFIN:=Aa hfin;clear hkind hfin h1;rcases p7 with _|ad
  ·have hc0:c7=0:=hn0 rfl;obtain rfl:A=0:=by omega
   obtain rfl:Z=0:=by omega
   subst hc0;have HC:=Aa (Tn none 0 0 (win s.data 0 0) w1 (fun i x hx=>by rw[List.eq_nil_of_length_eq_zero hdwin]at hx;simp at hx) hdwin (fun _=>rfl) (by omega));clear hdwin
   go_wp2_with (first|(go_at_call 199
                       refine HC.out.mono ?_;rintro e w2 ⟨v,rfl,ho,hb⟩
                       have HG:=HFIN.out _ _ ⟨v,rfl,ho,hb⟩)|fail)
   go_ret;exact HG
  ·by_cases hca:c7=A
   ·obtain rfl:Z=0:=by omega
    subst hca;have HC:=Aa (Tn (some ad) 0 0 (win s.data c7 0) w1 (fun i x hx=>by rw[List.eq_nil_of_length_eq_zero hdwin]at hx;simp at hx) hdwin (fun h=>by cases h) (by omega));clear hdwin
    go_wp2_with (first|(go_at_call 199
                        go_loud (refine HC.out.mono ?_);rintro e w2 ⟨v,rfl,ho,hb⟩
                        have HG:=HFIN.out _ _ ⟨v,rfl,ho,hb⟩)|fail)
    go_ret;exact HG
   ·have HC:=Aa (Tn (some (ad.add A)) Z (c7 - A) (win s.data A Z) w1 (Jbk HD.out hAZ) hdwin (fun h=>by cases h) (by omega));have hne2:¬c7 - A=0:=by omega
    clear hdwin
    go_wp2_with (first|(go_at_call 199
                        refine HC.out.mono ?_;rintro e w2 ⟨v,rfl,ho,hb⟩
                        have HG:=HFIN.out _ _ ⟨v,rfl,ho,hb⟩)|fail)
    go_ret;exact HG
end Go.Proofs.YteopgmieindojaaGreat
