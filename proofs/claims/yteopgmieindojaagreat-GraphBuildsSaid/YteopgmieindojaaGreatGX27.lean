/- Parts of a proof. -/
import Derived.Test.YteopgmieindojaaGreatGX23
import Derived.Test.YteopgmieindojaaGreatGX26
import Derived.Deep.DeepCutAuto
set_option maxRecDepth 1000000
set_option maxHeartbeats 8000000
namespace Go.Proofs.YteopgmieindojaaGreat
open Go.RowKit
def linkO(fl link num many:Int):Bool:=bif hasO fl 128 then inR link 1 many&&(link != num)else link==0
theorem Zt(nm:ByteArray)(ty fl al en li sz:Int)(vd:Value)(rp:Option Addr)(rl rc:Nat)(dp:Option Addr)(dl dc:Nat)(num many:Int)(w:World)(_hd:vd= .slice dp dl dc):
 Calls Tryz.prog 156 #[Pe nm ty fl al en li sz vd (.slice rp rl rc),.int .i64 num,.int .i64 many] w fun e w'=>e= .returned (.bool (linkO fl li num many))∧Below w.heap.size w w':=by
 have hb1:Below w.heap.size w (w.alloc (.cells #[.string nm,.int .i64 ty,.int .i64 fl,.int .i64 al,.int .i64 en,.int .i64 li,.int .i64 sz,vd,.slice rp rl rc] 89)):=(Ag _ w).alloc (Af _) _;have hha:=Dd w (.cells #[.string nm,.int .i64 ty,.int .i64 fl,.int .i64 al,.int .i64 en,.int .i64 li,.int .i64 sz,vd,.slice rp rl rc] 89);have HH:=Aa fun W=>Hn nm ty fl al en li sz vd (.slice rp rl rc) 128 W;have HW:=Aa fun W=>Ek li 1 many W;have hr:linkO fl li num many=bif hasO fl 128 then inR li 1 many&&(li != num)else li==0:=rfl
 have HB1:=Aa hb1;generalize linkO fl li num many=res at*;generalize hasO fl 128=h at*;generalize inR li 1 many=q at*;have HR:=Aa hr;subst _hd;clear hr hb1;go_enter Tryz.func156,Tryz.ntmps156;go_upto_region 1 with fail
 generalize w.alloc (.cells #[.string nm,.int .i64 ty,.int .i64 fl,.int .i64 al,.int .i64 en,.int .i64 li,.int .i64 sz,.slice dp dl dc,.slice rp rl rc] 89)=W1 at*;obtain⟨s0,s1,s2,s3,s4,s5,s6,s7,s8⟩:=Tv _ _ _ _ _ _ _ _ _ _ _ _ hha;clear hha;have hbs:=HB1.out.size;go_wp2_with fail
 refine(HH.out _).mono ?_;rintro e w2 ⟨rfl,hb2⟩;have t5:=Ax hb2 s5;have hbw:Below w.heap.size w w2:=HB1.out.trans (hb2.mono hbs);clear s0 s1 s2 s3 s4 s5 s6 s7 s8 hb2;cases h with
 |false=>
  have hE:Hid (res=(li==0)):=Aa (by rw[HR.out];rfl);go_wp2_with fail
  go_ret;rw[hE.out];exact⟨rfl,hbw⟩
 |true=>
  have hE:Hid (res=(q&&(li != num))):=Aa (by rw[HR.out];rfl);go_wp2_with fail
  refine(HW.out _).mono ?_;rintro e w' ⟨rfl,rfl⟩;cases q with
  |false=>
   have hE2:Hid (res=false):=Aa (by rw[hE.out];rfl);go_wp2_with fail
   go_ret;rw[hE2.out];exact⟨rfl,hbw⟩
  |true=>
   have hE2:Hid (res=(li != num)):=Aa (by rw[hE.out];rfl);go_wp2_with fail
   go_ret;rw[hE2.out];exact⟨rfl,hbw⟩
structure Nl(w:World)(g:Nat)(v0 v1 v2 v3 v4 v5 v6 v7 v8:Value):Prop where
 c0:w.cell? ⟨g,0,none⟩=some v0
 c1:w.cell? ⟨g,1,none⟩=some v1
 c2:w.cell? ⟨g,2,none⟩=some v2
 c3:w.cell? ⟨g,3,none⟩=some v3
 c4:w.cell? ⟨g,4,none⟩=some v4
 c5:w.cell? ⟨g,5,none⟩=some v5
 c6:w.cell? ⟨g,6,none⟩=some v6
 c7:w.cell? ⟨g,7,none⟩=some v7
 c8:w.cell? ⟨g,8,none⟩=some v8
theorem Nl.of{w:World}{g:Nat}{v0 v1 v2 v3 v4 v5 v6 v7 v8:Value}{T:TypeId}(h:w.heap[g]?=some (.cells #[v0,v1,v2,v3,v4,v5,v6,v7,v8] T (0,0))):Nl w g v0 v1 v2 v3 v4 v5 v6 v7 v8:=by
 obtain⟨h0,h1,h2,h3,h4,h5,h6,h7,h8⟩:=Tv _ _ _ _ _ _ _ _ _ _ _ _ h;exact⟨h0,h1,h2,h3,h4,h5,h6,h7,h8⟩
theorem Nl.later{w w':World}{g:Nat}{v0 v1 v2 v3 v4 v5 v6 v7 v8:Value}(h:Nl w g v0 v1 v2 v3 v4 v5 v6 v7 v8)(hb:Below w.heap.size w w'):Nl w' g v0 v1 v2 v3 v4 v5 v6 v7 v8:=
 ⟨Ax hb h.c0,Ax hb h.c1,Ax hb h.c2,Ax hb h.c3,Ax hb h.c4,Ax hb h.c5,Ax hb h.c6,Ax hb h.c7,Ax hb h.c8⟩
def typeO(ty fl sz:Int)(dl:Nat):Bool:=
 bif ty==1 then(sz==(dl:Int))&&(decide (sz≤16384)&& !(hasO fl 1&&hasO fl 4))else
 bif ty==8 then((dl:Int)==0)&&(inR sz 0 2147483647&&(hasO fl 1&&(!hasO fl 4&& !hasO fl 16)))else false
theorem Jai(nm:ByteArray)(ty fl al en li sz:Int)(dp rp:Option Addr)(dl dc rl rc:Nat)(w:World):
 Calls Tryz.prog 190 #[Pe nm ty fl al en li sz (.slice dp dl dc) (.slice rp rl rc)] w fun e w'=>e= .returned (.bool (typeO ty fl sz dl))∧Below w.heap.size w w':=by
 have hb1:Below w.heap.size w (w.alloc (.cells #[.string nm,.int .i64 ty,.int .i64 fl,.int .i64 al,.int .i64 en,.int .i64 li,.int .i64 sz,.slice dp dl dc,.slice rp rl rc] 89)):=(Ag _ w).alloc (Af _) _;have hha:=Dd w (.cells #[.string nm,.int .i64 ty,.int .i64 fl,.int .i64 al,.int .i64 en,.int .i64 li,.int .i64 sz,.slice dp dl dc,.slice rp rl rc] 89);have HS:=Aa (Nl.of hha);have HH1:=Aa fun W=>Hn nm ty fl al en li sz (.slice dp dl dc) (.slice rp rl rc) 1 W;have HH4:=Aa fun W=>Hn nm ty fl al en li sz (.slice dp dl dc) (.slice rp rl rc) 4 W;have HH16:=Aa fun W=>Hn nm ty fl al en li sz (.slice dp dl dc) (.slice rp rl rc) 16 W;have HP:=Aa fun W=>Nw sz W;have hr:typeO ty fl sz dl=bif ty==1 then(sz==(dl:Int))&&(decide (sz≤16384)&& !(hasO fl 1&&hasO fl 4))else
  bif ty==8 then((dl:Int)==0)&&(inR sz 0 2147483647&&(hasO fl 1&&(!hasO fl 4&& !hasO fl 16)))else false:=rfl
 have HB1:=Aa hb1;generalize typeO ty fl sz dl=res at*;generalize hasO fl 1=f1 at*;generalize hasO fl 4=f4 at*;generalize hasO fl 16=f16 at*;generalize inR sz 0 2147483647=q at*;have HR:=Aa hr;clear hr hb1 hha;go_enter Tryz.func190,Tryz.ntmps190;go_upto_region 1 with fail
 generalize w.alloc (.cells #[.string nm,.int .i64 ty,.int .i64 fl,.int .i64 al,.int .i64 en,.int .i64 li,.int .i64 sz,.slice dp dl dc,.slice rp rl rc] 89)=W1 at*;obtain⟨s0,s1,s2,s3,s4,s5,s6,s7,s8⟩:=HS.out;have hbs:=HB1.out.size;cases t1:(ty==1)with
 |true=>
  have hE:Hid (res=((sz==(dl:Int))&&(decide (sz≤16384)&& !(f1&&f4)))):=Aa (by rw[HR.out,t1];rfl);clear HR;cases t2:(sz==(dl:Int))with
  |false=>
   have hE2:Hid (res=false):=Aa (by rw[hE.out,t2];rfl);go_wp2_with fail
   go_ret;rw[hE2.out];exact⟨rfl,HB1.out⟩
  |true=>
   cases t3:decide (sz≤16384)with
   |false=>
    have hE2:Hid (res=false):=Aa (by rw[hE.out,t2,t3];rfl);go_wp2_with fail
    go_ret;rw[hE2.out];exact⟨by trivial,HB1.out⟩
   |true=>
    have hE2:Hid (res= !(f1&&f4)):=Aa (by rw[hE.out,t2,t3];rfl);clear hE;go_wp2_with fail
    refine(HH1.out _).mono ?_;rintro e w2 ⟨rfl,hb2⟩;have HS2:=Aa (HS.out.later hb2);have hbw:Below w.heap.size w w2:=HB1.out.trans (hb2.mono hbs);clear s0 s1 s2 s3 s4 s5 s6 s7 s8 hb2 HS;obtain⟨s0,s1,s2,s3,s4,s5,s6,s7,s8⟩:=HS2.out;have hbws:=hbw.size;cases f1 with
    |false=>
     have hE3:Hid (res=true):=Aa (by rw[hE2.out];rfl);go_wp2_with fail
     go_ret;rw[hE3.out];exact⟨rfl,hbw⟩
    |true=>
     have hE3:Hid (res= !f4):=Aa (by rw[hE2.out];rfl);go_wp2_with fail
     refine(HH4.out _).mono ?_;rintro e w3 ⟨rfl,hb3⟩;have hbw3:Below w.heap.size w w3:=hbw.trans (hb3.mono hbws);clear s0 s1 s2 s3 s4 s5 s6 s7 s8 hb3 HS2 hbw;go_wp2_with fail
     go_ret;rw[hE3.out];exact⟨rfl,hbw3⟩
 |false=>
  cases t8:(ty==8)with
  |false=>
   have hE:Hid (res=false):=Aa (by rw[HR.out,t1,t8];rfl);go_wp2_with fail
   go_ret;rw[hE.out];exact⟨rfl,HB1.out⟩
  |true=>
   have hE:Hid (res=(((dl:Int)==0)&&(q&&(f1&&(!f4&& !f16))))):=Aa (by rw[HR.out,t1,t8];rfl);clear HR;rcases Nat.eq_zero_or_pos dl with h0|h0
   ·subst h0;have hE2:Hid (res=(q&&(f1&&(!f4&& !f16)))):=Aa (by rw[hE.out];rfl);clear hE;go_wp2_with fail
    refine(HP.out _).mono ?_;rintro e w' ⟨rfl,rfl⟩;cases q with
    |false=>
     have hE3:Hid (res=false):=Aa (by rw[hE2.out];rfl);go_wp2_with fail
     go_ret;rw[hE3.out];exact⟨rfl,HB1.out⟩
    |true=>
     go_wp2_with fail
     refine(HH1.out _).mono ?_;rintro e w2 ⟨rfl,hb2⟩;have HS2:=Aa (HS.out.later hb2);have hbw:Below w.heap.size w w2:=HB1.out.trans (hb2.mono hbs);clear s0 s1 s2 s3 s4 s5 s6 s7 s8 hb2 HS;obtain⟨s0,s1,s2,s3,s4,s5,s6,s7,s8⟩:=HS2.out;have hbws:=hbw.size;cases f1 with
     |false=>
      have hE3:Hid (res=false):=Aa (by rw[hE2.out];rfl);go_wp2_with fail
      go_ret;rw[hE3.out];exact⟨rfl,hbw⟩
     |true=>
      have hE3:Hid (res=(!f4&& !f16)):=Aa (by rw[hE2.out];rfl);go_wp2_with fail
      refine(HH4.out _).mono ?_;rintro e w3 ⟨rfl,hb3⟩;have HS3:=Aa (HS2.out.later hb3);have hbw3:Below w.heap.size w w3:=hbw.trans (hb3.mono hbws);clear s0 s1 s2 s3 s4 s5 s6 s7 s8 hb3 HS2 hbw;obtain⟨s0,s1,s2,s3,s4,s5,s6,s7,s8⟩:=HS3.out;have hbws3:=hbw3.size;cases f4 with
      |true=>
       have hE4:Hid (res=false):=Aa (by rw[hE3.out];rfl);go_wp2_with fail
       go_ret;rw[hE4.out];exact⟨rfl,hbw3⟩
      |false=>
       have hE4:Hid (res= !f16):=Aa (by rw[hE3.out];rfl);go_wp2_with fail
       refine(HH16.out _).mono ?_;rintro e w4 ⟨rfl,hb4⟩;have hbw4:Below w.heap.size w w4:=hbw3.trans (hb4.mono hbws3);clear s0 s1 s2 s3 s4 s5 s6 s7 s8 hb4 HS3 hbw3;go_wp2_with fail
       go_ret;rw[hE4.out];exact⟨rfl,hbw4⟩
   ·have hne:((dl:Int)==0)=false:=by simp;omega
    have hE2:Hid (res=false):=Aa (by rw[hE.out,hne];rfl);go_wp2_with fail
    go_ret;rw[hE2.out];exact⟨by trivial,HB1.out⟩
def Fh(ql:Nat):Int→List Bool→List Int→Option (List Bool)
 |_,gd, []=>some gd
 |last,gd,n::t=>bif inR n (last+1) (ql:Int)&& !(gd[(n - 1).toNat]?.getD true)then Fh ql n (gd.set (n - 1).toNat true) t else none
def Gp(ql yl:Nat):List Bool→List Cs→Option (List Bool)
 |gd, []=>some gd
 |gd,g::t=>bif inR g.sym 1 ((yl:Int) - 1)&& !(g.members.length==0)then
    match Fh ql 0 gd g.members with
    |none=>none
    |some gd'=>Gp ql yl gd' t
  else none
def Ke(gd:List Bool)(i:Nat)(s:Ca):Bool:=hasO s.flags 512==gd[i]?.getD true
def groupsO(secs:List Ca)(yl:Nat)(gs:List Cs):Bool:=match Gp secs.length yl (List.replicate secs.length false) gs with
 |none=>false
 |some gd=>eachB (Ke gd) secs
theorem Jfu{ql yl:Nat}{gd:List Bool}{gs:List Cs}{k:Nat}{g:Cs}(h:gs[k]?=some g):Gp ql yl gd (gs.drop k)=bif inR g.sym 1 ((yl:Int) - 1)&& !(g.members.length==0)then
 match Fh ql 0 gd g.members with
 |none=>none
 |some gd'=>Gp ql yl gd' (gs.drop (k+1))
 else none:=by
 have hl:=(Ab.1 h).1;rw[List.drop_eq_getElem_cons hl,(Ab.1 h).2];rfl
theorem Jf3{ql:Nat}{last:Int}{gd:List Bool}{ms:List Int}{j:Nat}{n:Int}(h:ms[j]?=some n):Fh ql last gd (ms.drop j)=bif inR n (last+1) (ql:Int)&& !(gd[(n - 1).toNat]?.getD true)then Fh ql n (gd.set (n - 1).toNat true) (ms.drop (j+1))else none:=by
 have hl:=(Ab.1 h).1;rw[List.drop_eq_getElem_cons hl,(Ab.1 h).2];rfl
theorem Jrz{n a b:Int}(h:inR n a b=true):a≤n∧n≤b:=by
 unfold inR at h;simpa using h
theorem Jl6(w:World)(x y:Value)(T:TypeId):(w.alloc (.cells #[x,y] T)).cell? ⟨w.heap.size,0,none⟩=some x∧(w.alloc (.cells #[x,y] T)).cell? ⟨w.heap.size,1,none⟩=some y:=
 ⟨(Am _ _ 0 _ _ (0,0) (Ah w _)).trans rfl,(Am _ _ 1 _ _ (0,0) (Ah w _)).trans rfl⟩
theorem Tryz.infoBoolB:(Tryz.prog.info? 4).map (fun i=>(i.zero,i.size,i.bytes))=some (some (.bool false),1,1):=by kernel_rfl
theorem Wx(v4:Value)(hs:Bool)(p0 p1 p2:Option Addr)(c0 c1 c2 yl:Nat)(secs:List Ca)(gs:List Cs)(w:World)(hq:Bg 9 Ev w p0 secs)(hg:Bg 2 Ew w p2 gs)(hql:secs.length≤1000000)(hyl:yl≤1000000)(hgl:gs.length≤1000000)
 (hml:∀g∈gs,g.members.length≤1000000):
 Calls Tryz.prog 94 #[Gq (.slice p0 secs.length c0) (.slice p1 yl c1) (.slice p2 gs.length c2) hs v4] w fun e w'=>e= .returned (.bool (groupsO secs yl gs))∧Below w.heap.size w w':=by
 obtain⟨i0,hi,hz0,hz1,hz2⟩:=info_parts Tryz.infoBoolB;have hb8:i0.bytes*secs.length≤281474976710656:=by rw[hz2];omega
 have HI:=Aa hi;have H0:=Aa hz0;have H1:=Aa hz1;have hb1:Below w.heap.size w (w.alloc (.cells #[.slice p0 secs.length c0,.slice p1 yl c1,.slice p2 gs.length c2,.bool hs,v4] 27)):=(Ag _ w).alloc (Af _) _;have a0:(w.alloc (.cells #[.slice p0 secs.length c0,.slice p1 yl c1,.slice p2 gs.length c2,.bool hs,v4] 27)).cell? ⟨w.heap.size,0,none⟩=some (.slice p0 secs.length c0):=by simp
 have a1:(w.alloc (.cells #[.slice p0 secs.length c0,.slice p1 yl c1,.slice p2 gs.length c2,.bool hs,v4] 27)).cell? ⟨w.heap.size,1,none⟩=some (.slice p1 yl c1):=by simp
 have a2:(w.alloc (.cells #[.slice p0 secs.length c0,.slice p1 yl c1,.slice p2 gs.length c2,.bool hs,v4] 27)).cell? ⟨w.heap.size,2,none⟩=some (.slice p2 gs.length c2):=by simp
 have HQ:=Aa (hq.below Ev.keeps hb1);have HG:=Aa (hg.below Ew.keeps hb1);have HB1:=Aa hb1;have HML:=Aa hml;have hr:groupsO secs yl gs=match Gp secs.length yl (List.replicate secs.length false) gs with
  |none=>false
  |some gd=>eachB (Ke gd) secs:=rfl
 generalize groupsO secs yl gs=res at*;generalize hgn:gs.length=gl at*;have HGN:=Aa hgn;generalize hqn:secs.length=ql at*;have HQN:=Aa hqn;have HR:=Aa hr;have hky:IntKind.i64.wrap ((yl:Int) - 1)=(yl:Int) - 1:=Al _ (by omega);clear hb1 hq hg hgn hqn hr hml hi hz0 hz1 hz2;go_enter Tryz.func94,Tryz.ntmps94;go_upto_region 1 with fail
 generalize w.alloc (.cells #[.slice p0 ql c0,.slice p1 yl c1,.slice p2 gl c2,.bool hs,v4] 27)=W1 at*;have hbs:=HB1.out.size;go_wp2_with (at_make;refine wpList_make_full _ rfl _ _ 138 rfl W1.heap.size 4 i0 (.bool false) 1 Tryz.underlying138 HI.out H0.out H1.out _ _ _ _ ql rfl rfl rfl rfl hb8 (by unfold maxLen;omega) (Af _) ?_)
 intro w1 hown hgrow;have hbel:Below W1.heap.size W1 w1:=(Ag _ W1).grown hgrow (Af _) (fun k h=>by cases h);have hown0:w1.ownsRow W1.heap.size 4 1 (.slice (some ⟨W1.heap.size,0,none⟩) ql ql) ql ((List.replicate ql false).map Value.bool):=by
  rw[List.map_replicate,←toList_madeCells_one];exact hown
 have b2:=Ax hbel a2;clear hown hgrow;go_wp2_with fail
 go_loopw [18] (fun r18 wr=>∃(k:Nat)(gd:List Bool),k≤gl∧r18= .int .i64 (k:Int)∧gd.length=ql∧Gp ql yl (List.replicate ql false) gs=Gp ql yl gd (gs.drop k)∧wr.ownsRow W1.heap.size 4 1 (.slice (some ⟨W1.heap.size,0,none⟩) ql ql) ql (gd.map Value.bool)∧Below W1.heap.size W1 wr) (fun r18 _=>gl - (intOf r18).toNat)
 case atStart=>exact⟨0,_,Ak _,rfl,List.length_replicate,rfl,hown0,hbel⟩
 case round=>
  obtain⟨k,gd,hk,rfl,hgdl,hgo,hown,hb⟩:=hrel;have HGO:=Aa hgo;have a0k:=Ax hb a0;have a1k:=Ax hb a1;have a2k:=Ax hb a2;clear hgo hown0 hbel b2;by_cases hlt:k < gl
  ·obtain⟨b,off,g,rfl,hgk,⟨d0,_⟩,vm,d1,hvm⟩:=HG.out.at_ (i:=k) (by rw[HGN.out];exact hlt);obtain⟨mp,mc,rfl,l1,l2,l3,hmh⟩:=hvm;have e0:=Ax hb d0;have e1:=Ax hb d1;have hmb:=HML.out g (Ad hgk)
   have hstep:Hid (Gp ql yl (List.replicate ql false) gs=bif inR g.sym 1 ((yl:Int) - 1)&& !(g.members.length==0)then
    match Fh ql 0 gd g.members with
    |none=>none
    |some gd'=>Gp ql yl gd' (gs.drop (k+1))
    else none):=Aa (by rw[HGO.out,Jfu hgk])
   have hba:Below wr.heap.size wr (wr.alloc (.cells #[.int .i64 g.sym,.slice mp g.members.length mc] 100)):=(Ag _ wr).alloc (Af _) _;have hct:=Jl6 wr (.int .i64 g.sym) (.slice mp g.members.length mc) 100;have hb2:Below W1.heap.size W1 (wr.alloc (.cells #[.int .i64 g.sym,.slice mp g.members.length mc] 100)):=hb.trans (hba.mono hb.size);have hown2:=hown.alloc (.cells #[.int .i64 g.sym,.slice mp g.members.length mc] 100);have HMH:=Aa hmh;have HW:=Aa fun W=>Ek g.sym 1 ((yl:Int) - 1) W;have hJ:(k:Int) < (gl:Int):=by omega
   have k2:(0:Int)≤(k:Int):=by omega
   generalize hmn:g.members.length=ml at*;have HMN:=Aa hmn;clear hgk d0 d1 hmh hmn hown;go_upto_region 5 with fail
   generalize wr.alloc (.cells #[.int .i64 g.sym,.slice mp ml mc] 100)=ws at*;obtain⟨s0,s1⟩:=hct;have b0:=Ax hba a0k;have b1:=Ax hba a1k;have b2:=Ax hba a2k;have hfin:Below w.heap.size w ws:=HB1.out.trans (hb2.mono hbs);clear e0 e1 hba hb a0k a1k a2k;generalize inR g.sym 1 ((yl:Int) - 1)=q1 at*;go_wp2_with fail
   refine(HW.out _).mono ?_;rintro e w' ⟨rfl,rfl⟩;cases q1 with
   |false=>
    have hE:Hid (res=false):=Aa (by rw[HR.out,hstep.out];rfl);go_wp2_with fail
    go_ret;rw[hE.out];exact⟨rfl,hfin⟩
   |true=>
    by_cases hm0:ml=0
    ·have hE:Hid (res=false):=Aa (by rw[HR.out,hstep.out,hm0];rfl);subst hm0;go_wp2_with fail
     go_ret;rw[hE.out];exact⟨rfl,hfin⟩
    ·have hm1:((ml:Int)==0)=false:=by simp;omega
     have hmn0:(ml==0)=false:=by simp;omega
     have hstep2:Hid (Gp ql yl (List.replicate ql false) gs=match Fh ql 0 gd g.members with
      |none=>none
      |some gd'=>Gp ql yl gd' (gs.drop (k+1))):=Aa (by rw[hstep.out,hmn0];rfl)
     clear hstep hmn0 hm0;have hb2s:=hb2.size;go_wp2_with fail
     go_loopw [6,39] (fun r6 r39 wx=>∃(j:Nat)(ge:List Bool)(last:Nat),j≤ml∧r39= .int .i64 (j:Int)∧r6= .int .i64 (last:Int)∧last≤ql∧ge.length=ql∧Fh ql 0 gd g.members=Fh ql (last:Int) ge (g.members.drop j)∧wx.ownsRow W1.heap.size 4 1 (.slice (some ⟨W1.heap.size,0,none⟩) ql ql) ql (ge.map Value.bool)∧Below W1.heap.size W1 wx) (fun _ r39 _=>ml - (intOf r39).toNat)
     case atStart=>exact⟨0,gd,0,Ak _,rfl,rfl,Ak _,hgdl,rfl,hown2,hb2⟩
     case round=>
      obtain⟨j,ge,last,hj,rfl,rfl,hlq,hgel,hmg,hown3,hb3⟩:=hrel;have HMG:=Aa hmg;have x0:=Ax hb3 a0;clear hmg s0 s1 b0 b1 b2 hown2;by_cases hjl:j < ml
      ·obtain⟨b',off',n,rfl,hnj,d0,hn0,hn1⟩:=HMH.out.at_ (i:=j) (by rw[HMN.out];exact hjl);have e0:=Ax hb3 d0;have hms:Hid (Fh ql 0 gd g.members=bif inR n ((last:Int)+1) (ql:Int)&& !(ge[(n - 1).toNat]?.getD true)then Fh ql n (ge.set (n - 1).toNat true) (g.members.drop (j+1))else none):=Aa (by rw[HMG.out,Jf3 hnj]);have HW2:=Aa fun W=>Ek n ((last:Int)+1) (ql:Int) W;have hin:=fun h:inR n ((last:Int)+1) (ql:Int)=true=>Jrz h;have HIN:=Aa hin;have hJ:(j:Int) < (ml:Int):=by omega
       have k3:(0:Int)≤(j:Int):=by omega
       have kl:IntKind.i64.wrap ((last:Int)+1)=(last:Int)+1:=Al _ (by omega);have hfin3:Below w.heap.size w wr:=HB1.out.trans (hb3.mono hbs);rw[Nat.mul_one]at e0;generalize inR n ((last:Int)+1) (ql:Int)=q2 at*;clear d0 hnj hin;go_wp2_with fail
       refine(HW2.out _).mono ?_;rintro e w' ⟨rfl,rfl⟩;cases q2 with
       |false=>
        have hE:Hid (res=false):=Aa (by rw[HR.out,hstep2.out,hms.out];rfl);go_wp2_with fail
        go_ret;rw[hE.out];exact⟨rfl,hfin3⟩
       |true=>
        obtain⟨hi1,hi2⟩:=HIN.out (by trivial);obtain⟨m,rfl⟩:∃m:Nat,n=(m:Int)+1:=⟨(n - 1).toNat,by omega⟩
        have hmq:m < ql:=by omega
        obtain⟨bv,hbv⟩:∃bv,ge[m]?=some bv:=⟨_,Ae (by omega)⟩
        have hcl:wr.cell? ⟨W1.heap.size,m,none⟩=some (.bool bv):=(hown3.cellAt m (by omega)).trans (by rw[List.getElem?_map,hbv];rfl)
        have hms2:Hid (Fh ql 0 gd g.members=bif !bv then Fh ql ((m:Int)+1) (ge.set m true) (g.members.drop (j+1))else none):=Aa (by
         rw[hms.out,show((m:Int)+1 - 1).toNat=m by omega,hbv]
         rfl)
        have kw1:IntKind.i64.wrap ((m:Int)+1 - 1)=(m:Int):=by rw[show(m:Int)+1 - 1=(m:Int) by omega];exact Al _ (by omega)
        have kw2:IntKind.i64.wrap (m:Int)=(m:Int):=Al _ (by omega);have hJ2:(m:Int) < (ql:Int):=by omega
        have k5:(0:Int)≤(m:Int):=by omega
        clear hms hbv hi1 hi2;cases bv with
        |true=>
         have hE:Hid (res=false):=Aa (by rw[HR.out,hstep2.out,hms2.out];rfl);go_wp2_with fail
         go_ret;rw[hE.out];exact⟨rfl,hfin3⟩
        |false=>
         have hf:=hown3.frozenAt m;have hst:=hown3.stored m (.bool true);rw[←show(ge.set m true).map Value.bool=(ge.map Value.bool).set m (.bool true) from List.map_set]at hst;have HST:=Aa hst;have hms3:Hid (Fh ql 0 gd g.members=Fh ql ((m+1:Nat):Int) (ge.set m true) (g.members.drop (j+1))):=Aa (by rw[hms2.out];rfl);clear hst hms2;go_wp2_with fail
         go_roundw
         case rel=>exact⟨j+1,ge.set m true,m+1,hjl,by go_num,by go_num,hmq,by rw[List.length_set];exact hgel,hms3.out,HST.out.1,hb3.setCell (Af _) _⟩
         case measure=>simp[intOf];omega
      ·obtain rfl:j=ml:=by omega
       have hJ:¬(j:Int) < (j:Int):=by omega
       have hmo:Hid (Fh ql 0 gd g.members=some ge):=Aa (by rw[HMG.out,List.drop_eq_nil_of_le (by rw[HMN.out];exact Af _)];rfl);have hnx:Hid (Gp ql yl (List.replicate ql false) gs=Gp ql yl ge (gs.drop (k+1))):=Aa (by rw[hstep2.out,hmo.out]);go_wp2_with fail
       go_roundw
       case rel=>exact⟨k+1,ge,hlt,by go_num,hgel,hnx.out,hown3,hb3⟩
       case measure=>simp[intOf];omega
  ·obtain rfl:k=gl:=by omega
   have hJ:¬(k:Int) < (k:Int):=by omega
   have hE:Hid (res=eachB (Ke gd) secs):=Aa (by rw[HR.out,HGO.out,List.drop_eq_nil_of_le (by rw[HGN.out];exact Af _)];rfl);have hbks:=hb.size;go_wp2_with fail
   have HOW:=Aa hown;have HBO:=Aa hb;clear hown a0k a1k a2k HGO;generalize hwo:wr=wo at*;clear hwo;go_loopw [68] (fun r68 wx=>∃j:Nat,j≤ql∧r68= .int .i64 (j:Int)∧eachB (Ke gd) (secs.take j)=true∧Below wo.heap.size wo wx) (fun r68 _=>ql - (intOf r68).toNat)
   case atStart=>exact⟨0,Ak _,rfl,by simp[eachB],Ag _ _⟩
   case round=>
    obtain⟨j,hj,rfl,hall,hb3⟩:=hrel;have HA:=Aa hall;have hbw:Below W1.heap.size W1 wr:=hb.trans (hb3.mono hbks);clear hall;by_cases hjl:j < ql
    ·obtain⟨b,off,s,rfl,hsk,⟨d0,_⟩,⟨d1,_⟩,⟨d2,_⟩,⟨d3,_⟩,⟨d4,_⟩,⟨d5,_⟩,⟨d6,_⟩,⟨vd,d7,hvd⟩,⟨vr,d8,hvr⟩⟩:=HQ.out.at_ (i:=j) (by rw[HQN.out];exact hjl);obtain⟨dp,dc,rfl,_,_,_,_⟩:=hvd;obtain⟨rp,rc,rfl,_,_,_,_⟩:=hvr;have e0:=Ax hbw d0;have e1:=Ax hbw d1;have e2:=Ax hbw d2;have e3:=Ax hbw d3;have e4:=Ax hbw d4;have e5:=Ax hbw d5;have e6:=Ax hbw d6;have e7:=Ax hbw d7;have e8:=Ax hbw d8;obtain⟨bv,hbv⟩:∃bv,gd[j]?=some bv:=⟨_,Ae (by omega)⟩
     have hcl0:wo.cell? ⟨W1.heap.size,j,none⟩=some (.bool bv):=(HOW.out.cellAt j (by omega)).trans (by rw[List.getElem?_map,hbv];rfl);have hcl1:=Ax hb3 hcl0;have heq:Ke gd j s=(hasO s.flags 512==bv):=by
      unfold Ke;rw[hbv];rfl
     have hno:Ke gd j s=false→res=false:=fun h=>by rw[hE.out];exact Lq hsk h
     have hta:eachB (Ke gd) (secs.take (j+1))=(eachB (Ke gd) (secs.take j)&&Ke gd j s):=Kp hsk;rw[heq]at hno hta;have hba:Below wr.heap.size wr (wr.alloc (.cells #[.string s.name,.int .i64 s.type,.int .i64 s.flags,.int .i64 s.align,.int .i64 s.ent,.int .i64 s.link,.int .i64 s.size,.slice dp s.data.length dc,.slice rp s.rels.length rc] 89)):=(Ag _ wr).alloc (Af _) _;have hha:=Dd wr (.cells #[.string s.name,.int .i64 s.type,.int .i64 s.flags,.int .i64 s.align,.int .i64 s.ent,.int .i64 s.link,.int .i64 s.size,.slice dp s.data.length dc,.slice rp s.rels.length rc] 89);have HS:=Aa (Nl.of hha);have hb4:Below wo.heap.size wo (wr.alloc (.cells #[.string s.name,.int .i64 s.type,.int .i64 s.flags,.int .i64 s.align,.int .i64 s.ent,.int .i64 s.link,.int .i64 s.size,.slice dp s.data.length dc,.slice rp s.rels.length rc] 89)):=hb3.trans (hba.mono hb3.size);have HH:=Aa fun W=>Hn s.name s.type s.flags s.align s.ent s.link s.size (.slice dp s.data.length dc) (.slice rp s.rels.length rc) 512 W;generalize hasO s.flags 512=hq at*;have HNO:=Aa hno;have HTA:=Aa hta;have hJ:(j:Int) < (ql:Int):=by omega
     have k3:(0:Int)≤(j:Int):=by omega
     generalize s.data.length=dn at*;generalize s.rels.length=rn at*;clear hsk d0 d1 d2 d3 d4 d5 d6 d7 d8 hbv heq hno hta hha hcl0;go_upto_region 20 with fail
     have hcl:=Ax hba hcl1;generalize wr.alloc (.cells #[.string s.name,.int .i64 s.type,.int .i64 s.flags,.int .i64 s.align,.int .i64 s.ent,.int .i64 s.link,.int .i64 s.size,.slice dp dn dc,.slice rp rn rc] 89)=ws at*;obtain⟨s0,s1,s2,s3,s4,s5,s6,s7,s8⟩:=HS.out;clear e0 e1 e2 e3 e4 e5 e6 e7 e8 hba hb3 hcl1 HS;go_cut [79] (fun s79 wx=>s79= .bool (hq != bv)∧Below ws.heap.size ws wx)
     case first=>
      go_region_with (go_at_call 154;refine(HH.out _).mono ?_;rintro e w2 ⟨rfl,hb5⟩;have f0:=Ax hb5 hcl;have hb6:Below ws.heap.size ws w2:=Kk (w:=ws) hb5 rfl)
      all_goals go_wp2_with fail
      all_goals go_meet
      all_goals exact⟨by first|rfl|trivial|simp|fail,hb6⟩
     case rest=>
      obtain⟨rfl,hb5⟩:=hcut;have hb6:=hb4.trans (hb5.mono hb4.size);have hfin:=HB1.out.trans ((hb.trans (hb6.mono hbks)).mono hbs);cases hne:(hq != bv)with
      |true=>
       have hE2:Hid (res=false):=Aa (HNO.out (by unfold bne at hne;simpa using hne));clear s0 s1 s2 s3 s4 s5 s6 s7 s8 hcl hb4 hb5;go_wp2_with fail
       go_ret;rw[hE2.out];exact⟨rfl,hfin⟩
      |false=>
       have hE2:Hid (eachB (Ke gd) (secs.take (j+1))=true):=Aa (by
        rw[HTA.out,HA.out];unfold bne at hne
        simpa using hne)
       clear s0 s1 s2 s3 s4 s5 s6 s7 s8 hcl hb4 hb5;go_wp2_with fail
       go_roundw
       case rel=>exact⟨j+1,hjl,by go_num,hE2.out,hb6⟩
       case measure=>simp[intOf];omega
    ·obtain rfl:j=ql:=by omega
     have hJ2:¬(j:Int) < (j:Int):=by omega
     have hE2:Hid (res=true):=Aa (by rw[hE.out,←HA.out,List.take_of_length_le (by rw[HQN.out];exact Af _)]);go_wp2_with fail
     go_ret;rw[hE2.out];exact⟨rfl,HB1.out.trans (hbw.mono hbs)⟩
def mergeO(fl al en sz:Int)(dl rl:Nat)(last0:Bool):Bool:=
 bif hasO fl 16 then
  bif hasO fl 1 || (hasO fl 4 || decide ((0:Int) < (rl:Int)))then false else
  bif hasO fl 32 then(en==1)&&((al==1)&&(((dl:Int)==0) || last0))else
  bif (en==4) || ((en==8) || (en==16))then decide (al≤en)&&(sz.tmod en==0)else false
 else(en==0)&& !hasO fl 32
theorem Xg(nm:ByteArray)(ty fl al en li sz:Int)(dp rp:Option Addr)(dl dc rl rc:Nat)(data:List UInt8)(w:World)(hd:Has w dp data)(hdl:data.length=dl)(hdm:dl≤dc)(hdm2:dc≤maxLen):
 Calls Tryz.prog 191 #[Pe nm ty fl al en li sz (.slice dp dl dc) (.slice rp rl rc)] w fun e w'=>e= .returned (.bool (mergeO fl al en sz dl rl (data.getLast?==some 0)))∧Below w.heap.size w w':=by
 have hb1:Below w.heap.size w (w.alloc (.cells #[.string nm,.int .i64 ty,.int .i64 fl,.int .i64 al,.int .i64 en,.int .i64 li,.int .i64 sz,.slice dp dl dc,.slice rp rl rc] 89)):=(Ag _ w).alloc (Af _) _;have hha:=Dd w (.cells #[.string nm,.int .i64 ty,.int .i64 fl,.int .i64 al,.int .i64 en,.int .i64 li,.int .i64 sz,.slice dp dl dc,.slice rp rl rc] 89);have HS:=Aa (Nl.of hha);have HD:=Aa (hd.below hb1);have HDL:=Aa hdl;unfold maxLen at hdm2;have HH1:=Aa fun W=>Hn nm ty fl al en li sz (.slice dp dl dc) (.slice rp rl rc) 1 W;have HH4:=Aa fun W=>Hn nm ty fl al en li sz (.slice dp dl dc) (.slice rp rl rc) 4 W;have HH16:=Aa fun W=>Hn nm ty fl al en li sz (.slice dp dl dc) (.slice rp rl rc) 16 W;have HH32:=Aa fun W=>Hn nm ty fl al en li sz (.slice dp dl dc) (.slice rp rl rc) 32 W;have hr:mergeO fl al en sz dl rl (data.getLast?==some 0)=bif hasO fl 16 then
  bif hasO fl 1 || (hasO fl 4 || decide ((0:Int) < (rl:Int)))then false else
  bif hasO fl 32 then(en==1)&&((al==1)&&(((dl:Int)==0) || (data.getLast?==some 0)))else
  bif (en==4) || ((en==8) || (en==16))then decide (al≤en)&&(sz.tmod en==0)else false
 else(en==0)&& !hasO fl 32:=rfl
 have HB1:=Aa hb1;generalize hla:(data.getLast?==some 0)=la at*;have HLA:=Aa hla;generalize mergeO fl al en sz dl rl la=res at*;generalize hasO fl 1=f1 at*;generalize hasO fl 4=f4 at*;generalize hasO fl 16=f16 at*;generalize hasO fl 32=f32 at*;have HR:=Aa hr;clear hr hb1 hha hd hdl hla;go_enter Tryz.func191,Tryz.ntmps191;go_upto_region 1 with fail
 generalize w.alloc (.cells #[.string nm,.int .i64 ty,.int .i64 fl,.int .i64 al,.int .i64 en,.int .i64 li,.int .i64 sz,.slice dp dl dc,.slice rp rl rc] 89)=W1 at*;obtain⟨s0,s1,s2,s3,s4,s5,s6,s7,s8⟩:=HS.out;have hbs:=HB1.out.size;go_wp2_with fail
 refine(HH16.out _).mono ?_;rintro e w2 ⟨rfl,hb2⟩;have HS2:=Aa (HS.out.later hb2);have HD2:=Aa (HD.out.below hb2);have hbw2:Below w.heap.size w w2:=HB1.out.trans (hb2.mono hbs);clear s0 s1 s2 s3 s4 s5 s6 s7 s8 hb2 HS HD;obtain⟨s0,s1,s2,s3,s4,s5,s6,s7,s8⟩:=HS2.out;have hbs2:=hbw2.size;cases f16 with
 |false=>
  have hE:Hid (res=((en==0)&& !f32)):=Aa (by rw[HR.out];rfl);clear HR;cases t1:(en==0)with
  |false=>
   have hE2:Hid (res=false):=Aa (by rw[hE.out,t1];rfl);go_wp2_with fail
   go_ret;rw[hE2.out];exact⟨rfl,hbw2⟩
  |true=>
   have hE2:Hid (res= !f32):=Aa (by rw[hE.out,t1];rfl);go_wp2_with fail
   refine(HH32.out _).mono ?_;rintro e w3 ⟨rfl,hb3⟩;have hbw3:Below w.heap.size w w3:=hbw2.trans (hb3.mono hbs2);clear s0 s1 s2 s3 s4 s5 s6 s7 s8 hb3;go_wp2_with fail
   go_ret;rw[hE2.out];exact⟨rfl,hbw3⟩
 |true=>
  have hE:Hid (res=bif f1 || (f4 || decide ((0:Int) < (rl:Int)))then false else
   bif f32 then(en==1)&&((al==1)&&(((dl:Int)==0) || la))else
   bif (en==4) || ((en==8) || (en==16))then decide (al≤en)&&(sz.tmod en==0)else false):=Aa (by rw[HR.out];rfl)
  clear HR;go_wp2_with fail
  refine(HH1.out _).mono ?_;rintro e w3 ⟨rfl,hb3⟩;have HS3:=Aa (HS2.out.later hb3);have HD3:=Aa (HD2.out.below hb3);have hbw3:Below w.heap.size w w3:=hbw2.trans (hb3.mono hbs2);clear s0 s1 s2 s3 s4 s5 s6 s7 s8 hb3 HS2 HD2 hbw2;obtain⟨s0,s1,s2,s3,s4,s5,s6,s7,s8⟩:=HS3.out;have hbs3:=hbw3.size;cases f1 with
  |true=>
   have hE2:Hid (res=false):=Aa (by rw[hE.out];rfl);go_wp2_with fail
   go_ret;rw[hE2.out];exact⟨rfl,hbw3⟩
  |false=>
   go_wp2_with fail
   refine(HH4.out _).mono ?_;rintro e w4 ⟨rfl,hb4⟩;have HS4:=Aa (HS3.out.later hb4);have HD4:=Aa (HD3.out.below hb4);have hbw4:Below w.heap.size w w4:=hbw3.trans (hb4.mono hbs3);clear s0 s1 s2 s3 s4 s5 s6 s7 s8 hb4 HS3 HD3 hbw3;obtain⟨s0,s1,s2,s3,s4,s5,s6,s7,s8⟩:=HS4.out;have hbs4:=hbw4.size;cases f4 with
   |true=>
    have hE2:Hid (res=false):=Aa (by rw[hE.out];rfl);go_wp2_with fail
    go_ret;rw[hE2.out];exact⟨rfl,hbw4⟩
   |false=>
    rcases Nat.eq_zero_or_pos rl with h0|h0
    ·subst h0
     have hE2:Hid (res=bif f32 then(en==1)&&((al==1)&&(((dl:Int)==0) || la))else
      bif (en==4) || ((en==8) || (en==16))then decide (al≤en)&&(sz.tmod en==0)else false):=Aa (by rw[hE.out];rfl)
     clear hE;go_wp2_with fail
     refine(HH32.out _).mono ?_;rintro e w5 ⟨rfl,hb5⟩;have HS5:=Aa (HS4.out.later hb5);have HD5:=Aa (HD4.out.below hb5);have hbw5:Below w.heap.size w w5:=hbw4.trans (hb5.mono hbs4);clear s0 s1 s2 s3 s4 s5 s6 s7 s8 hb5 HS4 HD4 hbw4;obtain⟨s0,s1,s2,s3,s4,s5,s6,s7,s8⟩:=HS5.out;cases f32 with
     |true=>
      have hE3:Hid (res=((en==1)&&((al==1)&&(((dl:Int)==0) || la)))):=Aa (by rw[hE2.out];rfl);clear hE2;cases t1:(en==1)with
      |false=>
       have hE4:Hid (res=false):=Aa (by rw[hE3.out,t1];rfl);go_wp2_with fail
       go_ret;rw[hE4.out];exact⟨rfl,hbw5⟩
      |true=>
       cases t2:(al==1)with
       |false=>
        have hE4:Hid (res=false):=Aa (by rw[hE3.out,t1,t2];rfl);go_wp2_with fail
        go_ret;rw[hE4.out];exact⟨rfl,hbw5⟩
       |true=>
        rcases Nat.eq_zero_or_pos dl with g0|g0
        ·subst g0;have hE4:Hid (res=true):=Aa (by rw[hE3.out,t1,t2];rfl);go_wp2_with fail
         go_ret;rw[hE4.out];exact⟨by trivial,hbw5⟩
        ·obtain⟨k,rfl⟩:∃k,dl=k+1:=⟨dl - 1,by omega⟩
         obtain⟨b,off,x,rfl,hx,hxc⟩:=HD5.out.at_ (i:=k) (by rw[HDL.out];omega);have hne:(((k+1:Nat):Int)==0)=false:=by simp;omega
         have hla:Hid (la=((x.toNat:Int)==0)):=Aa (by
          rw[←HLA.out];have hl:data.getLast?=some x:=by rw[List.getLast?_eq_getElem?,HDL.out];exact hx
          rw[hl];by_cases hx0:x=0
          ·subst hx0;rfl
          ·have h2:¬x.toNat=0:=fun e=>hx0 (UInt8.toNat_inj.1 (by simpa using e));have e1:((some x:Option UInt8)==some 0)=false:=by simpa using hx0
           have e2:((x.toNat:Int)==0)=false:=by simp;omega
           rw[e1,e2])
         have hE4:Hid (res=((x.toNat:Int)==0)):=Aa (by rw[hE3.out,t1,t2,hne,←hla.out];rfl);have kw:IntKind.i64.wrap (((k:Int)+1) - 1)=(k:Int):=by rw[show((k:Int)+1) - 1=(k:Int) by omega];exact Al _ (by omega)
         have kn:¬((k:Int)+1=0):=by omega
         have k0:(0:Int)≤(k:Int):=by omega
         have k1:(k:Int) < (k:Int)+1:=by omega
         have kt:((k:Int)).toNat=k:=by omega
         clear hx hne;go_wp2_with fail
         go_ret;rw[hE4.out];exact⟨by rfl,hbw5⟩
     |false=>
      have hE3:Hid (res=bif (en==4) || ((en==8) || (en==16))then decide (al≤en)&&(sz.tmod en==0)else false):=Aa (by rw[hE2.out];rfl);by_cases h4:en=4
      ·subst h4;have hE4:Hid (res=(decide (al≤4)&&(sz.tmod 4==0))):=Aa (by rw[hE3.out];rfl);clear hE3;cases t5:decide (al≤4)with
       |false=>
        have hE5:Hid (res=false):=Aa (by rw[hE4.out,t5];rfl);go_wp2_with fail
        go_ret;rw[hE5.out];exact⟨by trivial,hbw5⟩
       |true=>
        have hE5:Hid (res=(sz.tmod 4==0)):=Aa (by rw[hE4.out,t5];rfl);go_wp2_with fail
        go_ret;rw[hE5.out];exact⟨by rfl,hbw5⟩
      ·have t4:(en==4)=false:=by simpa using h4
       by_cases h8:en=8
       ·subst h8;have hE4:Hid (res=(decide (al≤8)&&(sz.tmod 8==0))):=Aa (by rw[hE3.out];rfl);clear hE3;cases t5:decide (al≤8)with
        |false=>
         have hE5:Hid (res=false):=Aa (by rw[hE4.out,t5];rfl);go_wp2_with fail
         go_ret;rw[hE5.out];exact⟨by trivial,hbw5⟩
        |true=>
         have hE5:Hid (res=(sz.tmod 8==0)):=Aa (by rw[hE4.out,t5];rfl);go_wp2_with fail
         go_ret;rw[hE5.out];exact⟨by rfl,hbw5⟩
       ·have t8:(en==8)=false:=by simpa using h8
        by_cases h16:en=16
        ·subst h16;have hE4:Hid (res=(decide (al≤16)&&(sz.tmod 16==0))):=Aa (by rw[hE3.out];rfl);clear hE3;cases t5:decide (al≤16)with
         |false=>
          have hE5:Hid (res=false):=Aa (by rw[hE4.out,t5];rfl);go_wp2_with fail
          go_ret;rw[hE5.out];exact⟨by trivial,hbw5⟩
         |true=>
          have hE5:Hid (res=(sz.tmod 16==0)):=Aa (by rw[hE4.out,t5];rfl);go_wp2_with fail
          go_ret;rw[hE5.out];exact⟨by rfl,hbw5⟩
        ·have t16:(en==16)=false:=by simpa using h16
         have hE4:Hid (res=false):=Aa (by rw[hE3.out,t4,t8,t16];rfl);go_wp2_with fail
         go_ret;rw[hE4.out];exact⟨rfl,hbw5⟩
    ·have hp:decide ((0:Int) < (rl:Int))=true:=Aj (by omega);have hE2:Hid (res=false):=Aa (by rw[hE.out,hp];rfl);have hp2:(0:Int) < (rl:Int):=by omega
     go_wp2_with fail
     go_ret;rw[hE2.out];exact⟨by trivial,hbw4⟩
end Go.Proofs.YteopgmieindojaaGreat
