/- Parts of a proof. -/
import Derived.Test.YteopgmieindojaaGreatGX04
import Derived.Deep.RegionHeld
import Derived.Deep.DeepCutAuto
import Derived.Test.YteopgmieindojaaGreatGX30
import Derived.Deep.RegionHeld3
import Derived.Deep.RegionWith
set_option maxRecDepth 1000000
set_option maxHeartbeats 8000000
namespace Go.Proofs.YteopgmieindojaaGreat
open Go.RowKit
abbrev hd3 (a m n:Int):Value:= .agg #[.int .i64 a,.int .i64 m,.int .i64 n]
theorem Jnm(a m n:Int)(w:World):
 Calls Tryz.prog 172 #[hd3 a m n] w fun e w'=>e= .returned (.bool (decide (Jp a m n)))∧Below w.heap.size w w':=by
 have hb:=(Ag _ w).alloc (Af _) (.cells #[.int .i64 a,.int .i64 m,.int .i64 n] 233);by_cases h0:0≤a
 ·by_cases h1:a≤2147483647
  ·by_cases h2:1≤m
   ·by_cases h3:m≤65535
    ·by_cases h4:1≤n
     ·by_cases h5:n < m
      ·have HM:Hid (decide (Jp a m n)=true):=Aa (Aj (by unfold Jp;omega));go_enter Tryz.func172,Tryz.ntmps172;go_wp2_with fail
       go_ret;exact⟨by rw[HM.out];rfl,hb⟩
      ·have HM:Hid (decide (Jp a m n)=false):=Aa (Ai (by unfold Jp;omega));go_enter Tryz.func172,Tryz.ntmps172;go_wp2_with fail
       go_ret;exact⟨by rw[HM.out];rfl,hb⟩
     ·have HM:Hid (decide (Jp a m n)=false):=Aa (Ai (by unfold Jp;omega));go_enter Tryz.func172,Tryz.ntmps172;go_wp2_with fail
      go_ret;exact⟨by rw[HM.out];rfl,hb⟩
    ·have HM:Hid (decide (Jp a m n)=false):=Aa (Ai (by unfold Jp;omega));go_enter Tryz.func172,Tryz.ntmps172;go_wp2_with fail
     go_ret;exact⟨by rw[HM.out];rfl,hb⟩
   ·have HM:Hid (decide (Jp a m n)=false):=Aa (Ai (by unfold Jp;omega));go_enter Tryz.func172,Tryz.ntmps172;go_wp2_with fail
    go_ret;exact⟨by rw[HM.out];rfl,hb⟩
  ·have HM:Hid (decide (Jp a m n)=false):=Aa (Ai (by unfold Jp;omega));go_enter Tryz.func172,Tryz.ntmps172;go_wp2_with fail
   go_ret;exact⟨by rw[HM.out];rfl,hb⟩
 ·have HM:Hid (decide (Jp a m n)=false):=Aa (Ai (by unfold Jp;omega));go_enter Tryz.func172,Tryz.ntmps172;go_wp2_with fail
  go_ret;exact⟨by rw[HM.out];rfl,hb⟩
def Mi(a m n:Int):Array Value:=#[.int .u64 1,.int .i64 2,.int .u64 62,.int .i64 2,.int .u64 1,.int .i64 4,.int .u64 0,.int .i64 8,.int .u64 0,.int .i64 8,.int .u64 a,.int .i64 8,.int .u64 0,.int .i64 4,.int .u64 64,.int .i64 2,.int .u64 0,.int .i64 2,.int .u64 0,.int .i64 2,.int .u64 64,.int .i64 2,.int .u64 m,.int .i64 2,.int .u64 n,.int .i64 2]
theorem Jge(a m n:Nat)(w:World)(ha:a≤2147483647)(hm:m≤65535)(hn:n≤65535):
 Calls Tryz.prog 173 #[hd3 a m n] w fun e w'=>e= .returned (.slice (some ⟨w.heap.size+1,0,none⟩) 13 13)∧w'=(w.alloc (.cells #[.int .i64 (a:Int),.int .i64 (m:Int),.int .i64 (n:Int)] 233)).alloc (.cells (Mi a m n) 276):=by
 have e1:IntKind.u64.wrap (a:Int)=(a:Int):=by rw[Jm,show u64n (a:Int)=a from Fl a (by omega)]
 have e2:IntKind.u64.wrap (m:Int)=(m:Int):=by rw[Jm,show u64n (m:Int)=m from Fl m (by omega)]
 have e3:IntKind.u64.wrap (n:Int)=(n:Int):=by rw[Jm,show u64n (n:Int)=n from Fl n (by omega)]
 clear ha hm hn;go_enter Tryz.func173,Tryz.ntmps173;go_wp2_with fail
 go_ret;refine⟨?_,?_⟩
 ·rfl
 ·rfl
theorem Jjn(a m n:Nat)(k:Nat)(hk:k < 13):∃v wd:Nat,(Kl a m n)[2*k]?=some (v:Int)∧(Kl a m n)[2*k+1]?=some (wd:Int)∧(Mi a m n)[2*k]?=some (.int .u64 (v:Int))∧(Mi a m n)[2*k+1]?=some (.int .i64 (wd:Int)):=by
 match k,hk with
 |0,_=>exact⟨1,2,rfl,rfl,rfl,rfl⟩
 |1,_=>exact⟨62,2,rfl,rfl,rfl,rfl⟩
 |2,_=>exact⟨1,4,rfl,rfl,rfl,rfl⟩
 |3,_=>exact⟨0,8,rfl,rfl,rfl,rfl⟩
 |4,_=>exact⟨0,8,rfl,rfl,rfl,rfl⟩
 |5,_=>exact⟨a,8,rfl,rfl,rfl,rfl⟩
 |6,_=>exact⟨0,4,rfl,rfl,rfl,rfl⟩
 |7,_=>exact⟨64,2,rfl,rfl,rfl,rfl⟩
 |8,_=>exact⟨0,2,rfl,rfl,rfl,rfl⟩
 |9,_=>exact⟨0,2,rfl,rfl,rfl,rfl⟩
 |10,_=>exact⟨64,2,rfl,rfl,rfl,rfl⟩
 |11,_=>exact⟨m,2,rfl,rfl,rfl,rfl⟩
 |12,_=>exact⟨n,2,rfl,rfl,rfl,rfl⟩
theorem Jfo{w:World}{base:Nat}{e e2:TypeId}{s n g:Nat}{v:Value}{xs:List Value}{cs:Array Value}(h:w.ownsRow base e s v n xs)(hg:w.heap[g]?=some (.cells cs e2 (0,0)))(he:e≠e2):some g≠v.ownBlock:=by
 rcases h.2 with⟨rfl,_⟩|⟨g',cap,cur,rfl,_,hg',_⟩
 ·simp[Value.ownBlock]
 ·simp only[Value.ownBlock,ne_eq,Option.some.injEq];intro e;subst e;rw[hg]at hg';simp only[Option.some.injEq,Obj.cells.injEq]at hg';exact he hg'.2.1.symm
theorem Jio{w:World}{g:Nat}{o:Obj}(h:w.heap[g]?=some o):g < w.heap.size:=(Ac.1 h).1
theorem Jb6{w w':World}{B g:Nat}{o:Obj}(hb:Below B w w')(hg:w.heap[g]?=some o)(hB:g < B):w'.heap[g]?=some o:=by
 rw[hb.block g hB];exact hg
theorem Jnr(a m n:Nat)(w:World)(h:Jp a m n):Calls Tryz.prog 127 #[hd3 a m n] w (Fe (Nt a m n) w):=by
 have HM:=Aa fun W=>Jnm a m n W;rw[Aj h]at HM;obtain⟨h1,h2,h3,h4,h5,h6⟩:=h;have HF:=Aa fun W=>Jge a m n W (by omega) (by omega) (by omega);have HC:=Aa (Jjn a m n);have HW:=Aa (Jgs a m n);have HD:=Aa (Jlq (a:=a) (m:=m) (n:=n) (by omega) (by omega) (by omega));have hsz:(Mi a m n).size=26:=rfl;have HZ:=Aa hsz;obtain⟨i0,hi,hz0,hz1,hz2⟩:=info_parts Tryz.infoU8;have HI:=Aa hi;have H0:=Aa hz0;have H1:=Aa hz1;have H2:=Aa hz2;have hxl:(Kl a m n).length=26:=rfl;have HXL:=Aa hxl;have hdr:Nt a m n=Ta++Fq (Kl a m n):=rfl;have HDR:=Aa hdr;clear hi hz0 hz1 hz2 h1 h2 h3 h4 h5 h6 hsz hxl hdr;go_enter Tryz.func127,Tryz.ntmps127;go_wp2_with fail
 refine(HM.out _).mono ?_;rintro e w1 ⟨rfl,hb⟩;have hb1:Below w.heap.size w w1:=((Ag _ w).alloc (Af _) _).trans (hb.mono (by simp));have c0:w1.cell? ⟨w.heap.size,0,none⟩=some (.int .i64 (a:Int)):=by rw[hb.cell (by simp)];simp
 have c1:w1.cell? ⟨w.heap.size,1,none⟩=some (.int .i64 (m:Int)):=by rw[hb.cell (by simp)];simp
 have c2:w1.cell? ⟨w.heap.size,2,none⟩=some (.int .i64 (n:Int)):=by rw[hb.cell (by simp)];simp
 have hz:w.heap.size < w1.heap.size:=by have:=hb.size;simp at this;omega
 clear hb;go_wp2_with fail
 refine(HF.out _).mono ?_;rintro e w2 ⟨rfl,rfl⟩;go_wp2_with fail
 obtain⟨gp,hgp⟩:∃gp,gp=w1.heap.size:=⟨_,rfl⟩
 have hown0:=Jex w1 Ta 16 #[.int .u8 127,.int .u8 69,.int .u8 76,.int .u8 70,.int .u8 2,.int .u8 1,.int .u8 1,.int .u8 0,.int .u8 0,.int .u8 0,.int .u8 0,.int .u8 0,.int .u8 0,.int .u8 0,.int .u8 0,.int .u8 0] rfl rfl (by unfold maxLen;omega);obtain⟨w3,hw3⟩:∃w3:World,w3=(((w1.alloc (.cells #[.int .u8 127,.int .u8 69,.int .u8 76,.int .u8 70,.int .u8 2,.int .u8 1,.int .u8 1,.int .u8 0,.int .u8 0,.int .u8 0,.int .u8 0,.int .u8 0,.int .u8 0,.int .u8 0,.int .u8 0,.int .u8 0] 5)).alloc (.cells #[.int .i64 (a:Int),.int .i64 (m:Int),.int .i64 (n:Int)] 233)).alloc (.cells (Mi a m n) 276)):=⟨_,rfl⟩
 have hown3:w3.ownsRow w.heap.size 5 1 (.slice (some ⟨gp,0,none⟩) 16 16) 16 (Ta.map u8v):=by
  rw[hw3,hgp];exact Cm ((hown0.alloc _).alloc _) (by omega)
 have hf3:w3.heap[gp+1+1]?=some (.cells (Mi a m n) 276 (0,0)):=by
  rw[hw3,hgp];have:=Ah ((w1.alloc (.cells #[.int .u8 127,.int .u8 69,.int .u8 76,.int .u8 70,.int .u8 2,.int .u8 1,.int .u8 1,.int .u8 0,.int .u8 0,.int .u8 0,.int .u8 0,.int .u8 0,.int .u8 0,.int .u8 0,.int .u8 0,.int .u8 0] 5)).alloc (.cells #[.int .i64 (a:Int),.int .i64 (m:Int),.int .i64 (n:Int)] 233)) (.cells (Mi a m n) 276);simpa using this
 have hb3:Below w.heap.size w w3:=by
  rw[hw3];exact((hb1.alloc hb1.size _).alloc (by simp;omega) _).alloc (by simp;omega) _
 rw[←hgp,←hw3];have hgl:w.heap.size < gp+1+1:=by omega
 clear hw3 hown0 hb1 c0 c1 c2 hgp hz;clear w1;go_loopw [3,5,13] (fun out _ ii wr=>∃k q:Nat,k≤13∧q≤16+8*k∧ii= .int .i64 (k:Int)∧wr.ownsRow w.heap.size 5 1 out q ((Ta++Fq ((Kl a m n).take (2*k))).map u8v)∧wr.heap[gp+1+1]?=some (.cells (Mi a m n) 276 (0,0))∧Below w.heap.size w wr) (fun _ _ ii _=>13 - (intOf ii).toNat)
 case atStart=>exact⟨0,16,Ak _,Af _,rfl,by simpa[Fq]using hown3,hf3,hb3⟩
 case round=>
  obtain⟨k,q,hk,hq,rfl,hown,hcs,hb⟩:=hrel;by_cases hlt:k < 13
  ·obtain⟨v,wd,hx1,hx2,hy1,hy2⟩:=HC.out k hlt;have d1:wr.cell? ⟨gp+1+1,k*2,none⟩=some (.int .u64 (v:Int)):=by
    rw[Am wr (gp+1+1) (k*2) _ _ (0,0) hcs,Nat.mul_comm];exact hy1
   have d2:wr.cell? ⟨gp+1+1,k*2+1,none⟩=some (.int .i64 (wd:Int)):=by
    rw[Am wr (gp+1+1) (k*2+1) _ _ (0,0) hcs,Nat.mul_comm];exact hy2
   have hI:(k:Int) < 13:=by omega
   have hI0:(0:Int)≤(k:Int):=by omega
   have hwid:=HW.out k wd hx2;have hwd:=(Py wd).1 hwid;have hvb:=HD.out (2*k) v hx1;have hun:u64n (v:Int)=v:=Fl v (by omega);have ht2:=Tw (k:=k) hx1 hx2;rw[hun,Int.toNat_natCast]at ht2;have HT:=Aa ht2;have HP:=Aa fun W=>(Sa v wd W (by omega) hwid).mono fun _ _ x=>x.toH;have hw1:1≤wd:=by omega
   have hw8:wd≤8:=by omega
   rw[Dp]at HP;have hgs:gp+1+1 < wr.heap.size:=Ao wr _ d1;clear hx1 hx2 hy1 hy2 hwid hwd hvb hun ht2 hown3 hf3 hb3;go_wp2_with fail
   refine(HP.out _).mono ?_;rintro e w2 ⟨p2,c2,rfl,hl2,hnc2,hcm2,hH2,hbb2⟩;have hbA:Below w.heap.size w (wr.alloc (.cells #[.int .u64 (v:Int),.int .i64 (wd:Int)] 276)):=hb.alloc hb.size _;have hb2:Below w.heap.size w w2:=hbA.trans (hbb2.mono (by exact hbA.size));have hown2:=Ed (hown.alloc (.cells #[.int .u64 (v:Int),.int .i64 (wd:Int)] 276)) hbb2;have hcs2:w2.heap[gp+1+1]?=some (.cells (Mi a m n) 276 (0,0)):=by
    refine Jb6 hbb2 ?_ (by simp;omega);rw[Below.heap_alloc _ _ _ hgs];exact hcs
   have hap:=Jfo hown2 hcs2 (by decide);obtain⟨b2,o2,rfl,_⟩:=hH2.plain (by rw[hl2];omega);have HH2:=Aa hH2;have HL2:=Aa hl2;clear hH2 hl2 hbb2 hbA hown hcs hb d1 d2;go_wp2_with (at_builtin;refine wpList_append_own _ rfl _ _ 31 rfl w.heap.size 5 i0 (.int .u8 0) 1 1 Tryz.underlying31 HI.out H0.out H1.out H2.out rfl (by decide) _ q _ rfl hown2 ⟨b2,o2,none⟩ wd c2 ((leB wd v).map u8v) rfl (by rw[List.length_map,HL2.out,Nat.mul_one]) HH2.out.cells (Kv _) (by unfold maxLen;omega) (by omega) hb2.size ?_)
   intro v3 w4 hown4 hgrow _;have hb4:Below w.heap.size w w4:=hb2.grown hgrow hb2.size (fun g hg=>(hown2.lt g hg).1);have hcs4:w4.heap[gp+1+1]?=some (.cells (Mi a m n) 276 (0,0)):=by
    rw[hgrow.block _ (Jio hcs2) hap];exact hcs2
   have hown5:w4.ownsRow w.heap.size 5 1 v3 (q+wd) ((Ta++Fq ((Kl a m n).take (2*(k+1)))).map u8v):=by
    rw[HT.out,←List.append_assoc,List.map_append,List.map_append];simpa using hown4
   clear hown4;clear hgrow hown2 hb2 hcs2 hap;go_wp2_with fail
   go_roundw
   case rel=>exact⟨k+1,q+wd,hlt,by omega,by go_num,hown5,hcs4,hb4⟩
   case measure=>simp[intOf];omega
  ·obtain rfl:k=13:=by omega
   have ht:(Kl a m n).take (2*13)=Kl a m n:=List.take_of_length_le (by rw[HXL.out];omega);rw[ht,←HDR.out]at hown;have hn1:(Nt a m n).length=q:=by have:=hown.1;simpa using this
   clear ht;go_wp2_with fail
   go_ret;exact⟨_,rfl,by rw[hn1];exact hown,hb⟩
end Go.Proofs.YteopgmieindojaaGreat
