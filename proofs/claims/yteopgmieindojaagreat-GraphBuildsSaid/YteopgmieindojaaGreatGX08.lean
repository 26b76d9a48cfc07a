/- Parts of a proof. -/
import Derived.Test.YteopgmieindojaaGreatGX02
import Derived.Test.YteopgmieindojaaGreatGX07
import Derived.Test.YteopgmieindojaaGreatGX04
import Derived.Test.YteopgmieindojaaGreatGX01
import Derived.Maps.AppendAt
import Derived.Deep.QuietTactic
import Derived.BigQuiet
import Derived.Deep.DeepCutAuto
import Derived.Test.YteopgmieindojaaGreatGX03
set_option maxRecDepth 1000000
set_option maxHeartbeats 8000000
namespace Go.Proofs.YteopgmieindojaaGreat
open Go.RowKit
def kindS(s:Ca):Bool:=kindB s.type s.flags s.align s.ent s.size s.data.length s.rels.length (s.data.getLast?==some 0)
def secOK(ql yl:Nat)(gs:List Cs)(k:Nat)(s:Ca):Bool:=
 bif !mayB s.name.data.toList || !kindS s || !relsB yl s.data.length s.rels then false else
 bif (hasF s.flags 128&&(decide (s.link < 1) || decide ((ql:Int) < s.link) || (s.link==(k:Int)+1))) || (!hasF s.flags 128&&(s.link != 0))then false else
 (((memberN gs ((k:Int)+1):Int)==0)&& !hasF s.flags 512) || (((memberN gs ((k:Int)+1):Int)==1)&&hasF s.flags 512)
theorem Jfa(v2 v4:Value)(sig:Bool)(p0 p1:Option Addr)(c0 c1 k ql yl:Nat)(secs:List Ca)(gs:List Cs)(s:Ca)(w:World)(hq:Bg 9 Ev w p0 secs)(hg:IsL 2 Ew w v2 gs)(hk:secs[k]?=some s)(hql:secs.length=ql)(hqm:ql≤maxLen)(hym:yl≤maxLen)
 (hgl:gs.length≤1000000)(hml:∀g∈gs,g.members.length≤1000000):
 Calls Tryz.prog 76 #[Gq (.slice p0 ql c0) (.slice p1 yl c1) v2 sig v4,.int .i64 ((k:Int)+1)] w fun e w'=>e= .returned (.bool (secOK ql yl gs k s))∧Below w.heap.size w w':=by
 have hqm2:=hqm;unfold maxLen at hqm2;have hl1:k < secs.length:=(Ab.1 hk).1;obtain⟨b,off,s',rfl,hs0,hes⟩:=hq.at_ hl1;obtain rfl:s'=s:=by rw[hk]at hs0;cases hs0;rfl
 obtain⟨⟨d0,_⟩,⟨d1,_⟩,⟨d2,hfl⟩,⟨d3,_⟩,⟨d4,_⟩,⟨d5,_⟩,⟨d6,hsz⟩,⟨vd,d7,hvd⟩,⟨vr,d8,hvr⟩⟩:=hes;obtain⟨dp,dc,rfl,hd1,hd2,_,hdh⟩:=hvd;obtain⟨rp,rc,rfl,hr1,hr2,_,hrh⟩:=hvr;have hb1:Below w.heap.size w (w.alloc (.cells #[.slice (some ⟨b,off,none⟩) ql c0,.slice p1 yl c1,v2,.bool sig,v4] 27)):=(Ag _ w).alloc (Af _) _;have f0:=Ax hb1 d0;have f1:=Ax hb1 d1;have f2:=Ax hb1 d2;have f3:=Ax hb1 d3;have f4:=Ax hb1 d4;have f5:=Ax hb1 d5;have f6:=Ax hb1 d6;have f7:=Ax hb1 d7;have f8:=Ax hb1 d8;have hct:=Mu w #[.slice (some ⟨b,off,none⟩) ql c0,.slice p1 yl c1,v2,.bool sig,v4] #[.string s'.name,.int .i64 s'.type,.int .i64 s'.flags,.int .i64 s'.align,.int .i64 s'.ent,.int .i64 s'.link,.int .i64 s'.size,.slice dp s'.data.length dc,.slice rp s'.rels.length rc] 27 89;have a0:=hct.1 0;have a1:=hct.1 1;have a2:=hct.1 2;have a3:=hct.1 3;have a4:=hct.1 4;have g0:=hct.2 0;have g1:=hct.2 1;have g2:=hct.2 2;have g3:=hct.2 3;have g4:=hct.2 4;have g5:=hct.2 5;have g6:=hct.2 6;have g7:=hct.2 7;have g8:=hct.2 8;simp only[List.getElem?_toArray,List.getElem?_cons_succ,List.getElem?_cons_zero]at a0 a1 a2 a3 a4 g0 g1 g2 g3 g4 g5 g6 g7 g8;have hbx:=hb1.alloc hb1.size (.cells #[.string s'.name,.int .i64 s'.type,.int .i64 s'.flags,.int .i64 s'.align,.int .i64 s'.ent,.int .i64 s'.link,.int .i64 s'.size,.slice dp s'.data.length dc,.slice rp s'.rels.length rc] 89);have hdx:=(hdh.below Ds.keeps hbx).has;have hrx:=hrh.below Hk.keeps hbx;have hgx:=hg.below Ew.keeps hbx;have HK:=Aa (secOK.eq_1 ql yl gs k s');have HN:=Aa fun W=>Vw s'.name W;have hkd:∀W,Has W dp s'.data→Calls Tryz.prog 121 #[Pe s'.name s'.type s'.flags s'.align s'.ent s'.link s'.size (.slice dp s'.data.length dc) (.slice rp s'.rels.length rc)] W fun e w'=>e= .returned (.bool (kindS s'))∧Below W.heap.size W w':=fun W h=>Jml s'.name s'.type s'.flags s'.align s'.ent s'.link s'.size dp rp s'.data.length dc s'.rels.length rc s'.data W hfl hsz h rfl hd1 hd2 (Aw hr1 hr2);have hrl:∀W,Bg 4 Hk W rp s'.rels→Calls Tryz.prog 122 #[Gq (.slice (some ⟨b,off,none⟩) ql c0) (.slice p1 yl c1) v2 sig v4,Pe s'.name s'.type s'.flags s'.align s'.ent s'.link s'.size (.slice dp s'.data.length dc) (.slice rp s'.rels.length rc)] W fun e w'=>e= .returned (.bool (relsB yl s'.data.length s'.rels))∧Below W.heap.size W w':=fun W h=>Jnv (.slice (some ⟨b,off,none⟩) ql c0) v2 v4 sig p1 yl c1 s'.name s'.type s'.flags s'.align s'.ent s'.link s'.size dp rp s'.data.length dc rc s'.rels W h (Aw hr1 hr2) hym (Aw hd1 hd2);have hh1:=fun W=>Kc s'.name s'.type s'.flags s'.align s'.ent s'.link s'.size (.slice dp s'.data.length dc) (.slice rp s'.rels.length rc) 128 W (by omega) (by omega) hfl;have hh5:=fun W=>Kc s'.name s'.type s'.flags s'.align s'.ent s'.link s'.size (.slice dp s'.data.length dc) (.slice rp s'.rels.length rc) 512 W (by omega) (by omega) hfl;have hmb:=fun W (h:IsL 2 Ew W v2 gs)=>Jig (.slice (some ⟨b,off,none⟩) ql c0) (.slice p1 yl c1) v2 sig v4 gs ((k:Int)+1) W h hgl hml;have hkw:IntKind.i64.wrap ((k:Int)+1 - 1)=(k:Int):=by rw[show(k:Int)+1 - 1=k by omega];exact Al _ (by omega)
 have hke:(k:Int)+1 - 1=(k:Int):=by omega
 have hk3:(0:Int)≤(k:Int):=by omega
 have hlk:(k:Int) < (ql:Int):=by omega
 generalize kindS s'=qk at*;generalize relsB yl s'.data.length s'.rels=qr at*;generalize mayB s'.name.data.toList=qn at*;generalize hasF s'.flags 128=h1 at*;generalize hasF s'.flags 512=h5 at*;generalize memberN gs ((k:Int)+1)=mem at*;generalize secOK ql yl gs k s'=res at*;generalize s'.data.length=dl at*;generalize s'.rels.length=rl at*;have HKD:=Aa hkd;have HRL:=Aa hrl;have HH1:=Aa hh1;have HH5:=Aa hh5;have HMB:=Aa hmb;have HDX:=Aa hdx;have HRX:=Aa hrx;have HGX:=Aa hgx;clear hct hq hg hk hs0 d0 d1 d2 d3 d4 d5 d6 d7 d8 hdh hrh hkd hrl hh1 hh5 hmb hdx hrx hgx hgl hml;go_enter Tryz.func76,Tryz.ntmps76;go_upto_region 2 with fail
 generalize hgb:w.heap.size=gb at*;generalize hW1:(w.alloc (.cells #[.slice (some ⟨b,off,none⟩) ql c0,.slice p1 yl c1,v2,.bool sig,v4] 27)).alloc (.cells #[.string s'.name,.int .i64 s'.type,.int .i64 s'.flags,.int .i64 s'.align,.int .i64 s'.ent,.int .i64 s'.link,.int .i64 s'.size,.slice dp dl dc,.slice rp rl rc] 89)=W1 at*;clear f0 f1 f2 f3 f4 f5 f6 f7 f8;go_wp2_with fail
 refine(HN.out _).mono ?_;rintro e w2 ⟨rfl,rfl⟩;go_wp2_with fail
 refine(HKD.out _ HDX.out).mono ?_;rintro e w3 ⟨rfl,hb3⟩;have xa0:=Ax hb3 a0;have xa1:=Ax hb3 a1;have xa2:=Ax hb3 a2;have xa3:=Ax hb3 a3;have xa4:=Ax hb3 a4;have xg0:=Ax hb3 g0;have xg1:=Ax hb3 g1;have xg2:=Ax hb3 g2;have xg3:=Ax hb3 g3;have xg4:=Ax hb3 g4;have xg5:=Ax hb3 g5;have xg6:=Ax hb3 g6;have xg7:=Ax hb3 g7;have xg8:=Ax hb3 g8;go_wp2_with fail
 refine(HRL.out _ (HRX.out.below Hk.keeps hb3)).mono ?_;rintro e w4 ⟨rfl,hx4⟩;have hb4:=hb3.trans (hx4.mono hb3.size);clear hx4;clear xa0 xa1 xa2 xa3 xa4 xg0 xg1 xg2 xg3 xg4 xg5 xg6 xg7 xg8;have ya0:=Ax hb4 a0;have ya1:=Ax hb4 a1;have ya2:=Ax hb4 a2;have ya3:=Ax hb4 a3;have ya4:=Ax hb4 a4;have yg0:=Ax hb4 g0;have yg1:=Ax hb4 g1;have yg2:=Ax hb4 g2;have yg3:=Ax hb4 g3;have yg4:=Ax hb4 g4;have yg5:=Ax hb4 g5;have yg6:=Ax hb4 g6;have yg7:=Ax hb4 g7;have yg8:=Ax hb4 g8;obtain⟨k1,hk11⟩:∃c,c=(!qn || !qk || !qr):=⟨_,rfl⟩
 rw[←hk11]at HK;have hby:Below gb w w4:=hbx.trans (hb4.mono (by rw[←hgb];exact hbx.size));go_upto_region 5 with fail
 go_cut [35] (fun s35 wx=>s35= .bool k1∧wx=w4)
 case first=>
  subst hk11;cases qn
  ·go_wp2_with fail
   go_meet;exact⟨rfl,rfl⟩
  cases qk
  ·go_wp2_with fail
   go_meet;exact⟨rfl,rfl⟩
  cases qr
  all_goals
   go_wp2_with fail
   go_meet;exact⟨rfl,rfl⟩
 case rest=>
 obtain⟨rfl,rfl⟩:=hcut;clear hk11;cases k1
 case true=>
  go_wp2_with fail
  go_ret;subst hgb;exact⟨by rw[HK.out];rfl,hby⟩
 go_wp2_with fail
 refine(HH1.out _).mono ?_;rintro e w5 ⟨rfl,hx5⟩;have hb5:=hb4.trans (hx5.mono hb4.size);have hby5:=hby.trans (hx5.mono (by rw[←hgb];exact hby.size));clear hx5 hb4 hby;clear ya0 ya1 ya2 ya3 ya4 yg0 yg1 yg2 yg3 yg4 yg5 yg6 yg7 yg8;have za0:=Ax hb5 a0;have za1:=Ax hb5 a1;have za2:=Ax hb5 a2;have za3:=Ax hb5 a3;have za4:=Ax hb5 a4;have zg0:=Ax hb5 g0;have zg1:=Ax hb5 g1;have zg2:=Ax hb5 g2;have zg3:=Ax hb5 g3;have zg4:=Ax hb5 g4;have zg5:=Ax hb5 g5;have zg6:=Ax hb5 g6;have zg7:=Ax hb5 g7;have zg8:=Ax hb5 g8;obtain⟨k2,hk22⟩:∃c,c=((h1&&(decide (s'.link < 1) || decide ((ql:Int) < s'.link) || (s'.link==(k:Int)+1))) || (!h1&&(s'.link != 0))):=⟨_,rfl⟩
 rw[←hk22]at HK;go_upto_region 8 with fail
 go_cut [66] (fun s66 wx=>s66= .bool k2∧wx=w5)
 case first=>
  cases h1
  ·cases t1:(s'.link != 0)
   all_goals
    rw[t1]at hk22;subst hk22;go_wp2_with fail
    go_meet;exact⟨rfl,rfl⟩
  cases t1:decide (s'.link < 1)
  ·cases t2:decide ((ql:Int) < s'.link)
   ·cases t3:(s'.link==(k:Int)+1)
    ·rw[t1,t2,t3]at hk22;subst hk22;go_wp2_with fail
     go_meet;exact⟨rfl,rfl⟩
    ·rw[t1,t2,t3]at hk22;subst hk22;go_wp2_with fail
     go_meet;exact⟨rfl,rfl⟩
   ·rw[t1,t2]at hk22;subst hk22;go_wp2_with fail
    go_meet;exact⟨rfl,rfl⟩
  ·rw[t1]at hk22;subst hk22;go_wp2_with fail
   go_meet;exact⟨rfl,rfl⟩
 case rest=>
 obtain⟨rfl,rfl⟩:=hcut;clear hk22;cases k2
 case true=>
  go_wp2_with fail
  go_ret;subst hgb;exact⟨by rw[HK.out];rfl,hby5⟩
 go_wp2_with fail
 refine(HH5.out _).mono ?_;rintro e w6 ⟨rfl,hx6⟩;have hb6:=hb5.trans (hx6.mono hb5.size);have hby6:=hby5.trans (hx6.mono (by rw[←hgb];exact hby5.size));clear hx6 hb5 hby5;clear za0 za1 za2 za3 za4 zg0 zg1 zg2 zg3 zg4 zg5 zg6 zg7 zg8;have ua0:=Ax hb6 a0;have ua1:=Ax hb6 a1;have ua2:=Ax hb6 a2;have ua3:=Ax hb6 a3;have ua4:=Ax hb6 a4;have ug0:=Ax hb6 g0;have ug1:=Ax hb6 g1;have ug2:=Ax hb6 g2;have ug3:=Ax hb6 g3;have ug4:=Ax hb6 g4;have ug5:=Ax hb6 g5;have ug6:=Ax hb6 g6;have ug7:=Ax hb6 g7;have ug8:=Ax hb6 g8;go_wp2_with fail
 refine(HMB.out _ (HGX.out.below Ew.keeps hb6)).mono ?_;rintro e w7 ⟨rfl,hx7⟩;have hby7:=hby6.trans (hx7.mono (by rw[←hgb];exact hby6.size));clear hx7 hb6 hby6;clear ua0 ua1 ua2 ua3 ua4 ug0 ug1 ug2 ug3 ug4 ug5 ug6 ug7 ug8;cases t1:((mem:Int)==0)
 ·cases t2:((mem:Int)==1)
  ·rw[t1,t2]at HK;go_wp2_with fail
   go_ret;subst hgb;exact⟨by rw[HK.out];rfl,hby7⟩
  ·cases h5
   all_goals
    rw[t1,t2]at HK;go_wp2_with fail
    go_ret;subst hgb;exact⟨by rw[HK.out];rfl,hby7⟩
 ·have t2:((mem:Int)==1)=false:=by simp at t1⊢;omega
  cases h5
  all_goals
   rw[t1,t2]at HK;go_wp2_with fail
   go_ret;subst hgb;exact⟨by rw[HK.out];rfl,hby7⟩
structure PcD where
 (at_ size:Int)
def EPc(w:World)(b o:Nat)(p:PcD):Prop:=Cc w b o p.at_∧Cc w b (o+1) p.size
theorem EPc.keeps:Hb EPc:=fun _ _ _ _ _ hb ⟨h0,h1⟩=>⟨Cc.keeps _ _ _ _ _ hb h0,Cc.keeps _ _ _ _ _ hb h1⟩
def pcV:List PcD→List Value
 | []=> []
 |p::l=> .int .i64 p.at_:: .int .i64 p.size::pcV l
theorem Su:∀l:List PcD,(pcV l).length=l.length*2
 | []=>rfl
 |_::l=>by simp[pcV,Su l];omega
theorem Pr:∀a b:List PcD,pcV (a++b)=pcV a++pcV b
 | [],_=>rfl
 |_::l,b=>by simp[pcV,Pr l b]
theorem Jg5:∀(l:List PcD)(i:Nat)(p:PcD),l[i]?=some p→(pcV l)[i*2]?=some (.int .i64 p.at_)∧(pcV l)[i*2+1]?=some (.int .i64 p.size)
 | [],i,p,h=>by simp at h
 |q::l,0,p,h=>by simp at h;subst h;simp[pcV]
 |q::l,i+1,p,h=>by
  have:=Jg5 l i p (by simpa using h);rw[show(i+1)*2=i*2+2 by omega];simpa[pcV]using this
def PcD.bd(p:PcD):Prop:=(-9223372036854775808≤p.at_∧p.at_≤9223372036854775807)∧ -9223372036854775808≤p.size∧p.size≤9223372036854775807
theorem Jjk{w:World}{base:Nat}{T:TypeId}{v:Value}{l:List PcD}(h:w.ownsRow base T 2 v l.length (pcV l))(hbd:∀p∈l,p.bd):IsL 2 EPc w v l:=by
 obtain⟨_,h⟩:=h;rcases h with⟨rfl,h0⟩|⟨g,cap,cur,rfl,_,hg,h1,h2,h3,h4⟩
 ·have:l= []:=List.length_eq_zero_iff.1 h0;subst this;exact⟨none,0,rfl,Af _,Ak _,fun _=>rfl,fun i x hx=>by simp at hx⟩
 ·refine⟨some ⟨g,0,none⟩,cap,rfl,h1,h2,(fun h=>by cases h),fun i p hp=>⟨g,0,rfl,?_⟩⟩;have hi:i < l.length:=(Ab.1 hp).1;obtain⟨q0,q1⟩:=Jg5 l i p hp;obtain⟨d0,d1⟩:=hbd p (Ad hp);have hc:∀j x,j < l.length*2→(pcV l)[j]?=some x→w.cell? ⟨g,j,none⟩=some x:=fun j x hj hx=>by
   refine(Am w g j cur T (0,0) hg).trans ?_;rw[←h4,List.getElem?_take,if_pos hj]at hx;simpa using hx
  refine⟨⟨hc _ _ (by omega) (by rw[Nat.zero_add];exact q0),d0⟩,⟨hc _ _ (by omega) (by rw[Nat.zero_add];exact q1),d1⟩⟩
def Xa(strs:Bool)(ent:Int)(a k:Nat)(x:UInt8):Bool:=bif strs then x==0 else((k:Int)+1 - (a:Int))==ent
def Co(strs:Bool)(ent:Int)(d:List UInt8):Nat→List PcD × Nat
 |0=>([],0)
 |k+1=>match d[k]? with
  |none=>Co strs ent d k
  |some x=>bif Xa strs ent (Co strs ent d k).2 k x then((Co strs ent d k).1++ [⟨(Co strs ent d k).2,(k:Int)+1 - ((Co strs ent d k).2:Int)⟩],k+1)else Co strs ent d k
def piecesOf(s:Ca):List PcD:=bif hasF s.flags 16 then(Co (hasF s.flags 32) s.ent s.data s.data.length).1 else [⟨0,s.size⟩]
theorem Pm{strs:Bool}{ent:Int}{d:List UInt8}{k a:Nat}{l:List PcD}{x:UInt8}(h:Co strs ent d k=(l,a))(hx:d[k]?=some x)(he:Xa strs ent a k x=true):Co strs ent d (k+1)=(l++ [⟨a,(k:Int)+1 - (a:Int)⟩],k+1):=by
 show(match d[k]? with|none=>_|some x=>_)=_;rw[hx,h];simp only;rw[he];rfl
theorem Qq{strs:Bool}{ent:Int}{d:List UInt8}{k a:Nat}{l:List PcD}{x:UInt8}(h:Co strs ent d k=(l,a))(hx:d[k]?=some x)(he:Xa strs ent a k x=false):Co strs ent d (k+1)=(l,a):=by
 show(match d[k]? with|none=>_|some x=>_)=_;rw[hx,h];simp only;rw[he];rfl
def Fr(l:List PcD):Int:=(l.map PcD.size).sum
theorem Yo(l:List PcD)(p:PcD):Fr (l++ [p])=Fr l+p.size:=by simp[Fr]
def Pj(l:List PcD)(a:Int):Prop:=Fr l=a∧∀i p,l[i]?=some p→p.at_=Fr (l.take i)∧0≤p.size
theorem Pj.snoc{l:List PcD}{a n:Int}(h:Pj l a)(hn:0≤n):Pj (l++ [⟨a,n⟩]) (a+n):=by
 refine⟨by rw[Yo,h.1],fun i p hp=>?_⟩;rw[List.getElem?_append]at hp;split at hp
 ·rename_i hi;have:=h.2 i p hp;rw[List.take_append_of_le_length (by omega)];exact this
 ·rename_i hi;have hi0:i - l.length=0:=by have:=(Ab.1 hp).1;simp at this;omega
  rw[hi0]at hp;simp at hp;subst hp;have:i=l.length:=by omega
  subst this;rw[List.take_append_of_le_length (Af _),List.take_length,h.1];exact⟨rfl,hn⟩
theorem Tb(strs:Bool)(ent:Int)(d:List UInt8):∀k,k≤d.length→Pj (Co strs ent d k).1 ((Co strs ent d k).2:Int)∧(Co strs ent d k).2≤k∧(Co strs ent d k).1.length≤k∧(∀p∈(Co strs ent d k).1,0≤p.at_∧1≤p.size∧p.at_+p.size≤(k:Int))∧
 (strs=true→(∀j x,(Co strs ent d k).2≤j→j < k→d[j]?=some x→x≠0)∧∀p∈(Co strs ent d k).1,∀(j:Nat) x,p.at_≤(j:Int)→(j:Int) < p.at_+p.size→d[j]?=some x→(x==0)=((j:Int)==p.at_+p.size - 1))∧
 (strs=false→1≤ent→((k:Int) - ((Co strs ent d k).2:Int) < ent)∧ent ∣ ((Co strs ent d k).2:Int))
 |0,_=>by
  refine⟨⟨rfl,fun i p hp=>by simp[Co]at hp⟩,Af _,Af _,fun p hp=>by simp[Co]at hp,fun _=>⟨fun j x _ h=>absurd h (by omega),fun p hp=>by simp[Co]at hp⟩,fun _ h1=>⟨by simp[Co];omega,by simp[Co]⟩⟩
 |k+1,hk=>by
  obtain⟨hc,ha,hl,hp,hs,he⟩:=Tb strs ent d k (by omega);obtain⟨x,hx⟩:∃x,d[k]?=some x:=⟨_,Ae (by omega)⟩
  generalize hst:Co strs ent d k=st at*;obtain⟨l,a⟩:=st;simp only at hc ha hl hp hs he;cases hb:Xa strs ent a k x with
  |true=>
   rw[Pm hst hx hb];simp only;refine⟨?_,Af _,by simp;omega,fun p hpm=>?_,fun h=>⟨fun j y h1 h2=>absurd h1 (by omega),fun p hpm j y h1 h2 hy=>?_⟩,fun h h1=>?_⟩
   ·have:=hc.snoc (n:=(k:Int)+1 - (a:Int)) (by omega);rw[show(a:Int)+((k:Int)+1 - (a:Int))=((k+1:Nat):Int) by omega]at this;exact this
   ·rcases List.mem_append.1 hpm with h|h
    ·have:=hp p h;omega
    ·simp at h;subst h;simp only;omega
   ·subst h;rcases List.mem_append.1 hpm with h|h
    ·exact(hs rfl).2 p h j y h1 h2 hy
    ·simp at h;subst h;simp only at h1 h2⊢;by_cases hjk:j=k
     ·subst hjk;rw[hx]at hy;cases hy;have hx0:(x==0)=true:=hb;rw[hx0];simp;omega
     ·have:=(hs rfl).1 j y (by omega) (by omega) hy;have e1:(y==0)=false:=by simpa using this
      rw[e1];symm;simp;omega
   ·subst h;have h2:=he rfl h1;have h3:((k:Int)+1 - (a:Int))=ent:=by
     have:(((k:Int)+1 - (a:Int))==ent)=true:=hb;simpa using this
    refine⟨by omega,?_⟩;obtain⟨q,hq⟩:=h2.2;exact⟨q+1,by rw[Int.mul_add,←hq];omega⟩
  |false=>
   rw[Qq hst hx hb];simp only;refine⟨hc,by omega,by omega,fun p hpm=>?_,fun h=>⟨fun j y h1 h2 hy=>?_,?_⟩,fun h h1=>?_⟩
   ·have:=hp p hpm;omega
   ·subst h;by_cases hjk:j=k
    ·subst hjk;rw[hx]at hy;cases hy;have hx0:(x==0)=false:=hb;simpa using hx0
    ·exact(hs rfl).1 j y h1 (by omega) hy
   ·exact(hs h).2
   ·subst h;have h2:=he rfl h1;have h3:¬((k:Int)+1 - (a:Int))=ent:=by
     have:(((k:Int)+1 - (a:Int))==ent)=false:=hb;simpa using this
    exact⟨by omega,h2.2⟩
abbrev Ji6 (s:Ca) (vd vr:Value):Value:=Pe s.name s.type s.flags s.align s.ent s.link s.size vd vr
def Mr(s:Ca):Prop:=(0≤s.size∧s.size≤2147483647)∧
 (hasF s.flags 16=true→s.size=(s.data.length:Int)∧s.data.length≤16384∧(hasF s.flags 32=true→s.data= []∨s.data.getLast?=some 0)∧(hasF s.flags 32=false→1≤s.ent∧s.ent ∣ s.size))∧
 (hasF s.flags 16=false→hasF s.flags 32=false)∧0≤s.flags
theorem Jbi{n:Int}(h:n < 0):∀L:List Int,L.foldl Dj n=n
 | []=>rfl
 |l::L=>by
  have e:Dj n l=n:=by unfold Dj hasF;rw[Ai (show¬0≤n by omega)];simp
  rw[List.foldl_cons,e];exact Jbi h L
theorem Jkf{n:Int}(h:flagsB n=true):0≤n:=by
 by_cases h0:0≤n
 ·exact h0
 ·unfold flagsB at h;rw[Jbi (by omega)]at h;simp at h;omega
theorem El{c d:Bool}(h:(bif c then false else d)=true):c=false∧d=true:=by cases c<;>simp_all
theorem Jiu{s:Ca}(h:kindS s=true):Mr s:=by
 unfold kindS kindB at h;obtain⟨h1,h⟩:=El h
 have hfl:0≤s.flags:=Jkf (by
  rw[Bool.or_eq_false_iff,Bool.or_eq_false_iff]at h1
  simpa using h1.1.1)
 obtain⟨h2,h⟩:=El h;obtain⟨h3,h⟩:=El h;obtain⟨h4,h⟩:=El h;have hty:s.type=1∨s.type=8:=by simp at h4;omega
 have hl1:s.type=1→s.size=(s.data.length:Int)∧s.size≤16384:=fun e=>by
  simp[e]at h2;omega
 have hl8:s.type=8→s.data.length=0∧0≤s.size∧s.size≤2147483647∧hasF s.flags 16=false:=fun e=>by
  simp[e]at h3;obtain⟨⟨⟨⟨x1,x2⟩,x3⟩,_⟩,x5⟩:=h3;exact⟨by rw[x1];rfl,by omega,by omega,x5⟩
 have hsz:0≤s.size∧s.size≤2147483647:=by
  rcases hty with e|e
  ·have:=hl1 e;omega
  ·have:=hl8 e;omega
 refine⟨hsz,fun hm=>?_,fun hm=>?_,hfl⟩
 ·have e1:s.type=1:=by
   rcases hty with e|e
   ·exact e
   ·have:=(hl8 e).2.2.2;rw[hm]at this;cases this
  obtain⟨e2,e3⟩:=hl1 e1;rw[hm]at h
  have h':(bif hasF s.flags 1 || hasF s.flags 4 || decide (0 < (s.rels.length:Int))then false else
   bif hasF s.flags 32 then(s.ent==1)&&(s.align==1)&&(((s.data.length:Int)==0) || (s.data.getLast?==some 0))else
   (s.ent==4 || s.ent==8 || s.ent==16)&&decide (s.align≤s.ent)&&(s.size.tmod s.ent==0))=true:=h
  obtain⟨_,h5⟩:=El h';refine⟨e2,by omega,fun hs=>?_,fun hs=>?_⟩
  ·rw[hs]at h5;simp at h5;rcases h5.2 with h6|h6
   ·exact .inl h6
   ·exact .inr h6
  ·rw[hs]at h5;simp at h5;obtain⟨⟨h6,_⟩,h7⟩:=h5;exact⟨by omega,Int.dvd_of_tmod_eq_zero h7⟩
 ·rw[hm]at h;simp at h;exact h.2
theorem Ey{s:Ca}(h:Mr s):Pj (piecesOf s) s.size∧(piecesOf s).length≤16384∧(∀p∈piecesOf s,0≤p.at_∧0≤p.size∧p.at_+p.size≤s.size)∧
 (hasF s.flags 32=true→∀p∈piecesOf s,p.at_+p.size≤(s.data.length:Int)∧∀(j:Nat) x,p.at_≤(j:Int)→(j:Int) < p.at_+p.size→s.data[j]?=some x→(x==0)=((j:Int)==p.at_+p.size - 1)):=by
 obtain⟨hsz,hm,hn,_⟩:=h;cases hq:hasF s.flags 16 with
 |false=>
  have e:piecesOf s= [⟨0,s.size⟩]:=by unfold piecesOf;rw[hq];rfl
  rw[e];refine⟨⟨by simp[Fr],fun i p hp=>?_⟩,by simp,fun p hp=>?_,fun h32=>?_⟩
  ·match i,hp with
   |0,hp=>simp at hp;subst hp;exact⟨by simp[Fr],hsz.1⟩
   |i+1,hp=>simp at hp
  ·simp at hp;subst hp;simp only;omega
  ·rw[hn hq]at h32;cases h32
 |true=>
  obtain⟨e1,e2,hs,he⟩:=hm hq;have e:piecesOf s=(Co (hasF s.flags 32) s.ent s.data s.data.length).1:=by unfold piecesOf;rw[hq];rfl
  rw[e];obtain⟨i1,i2,i3,i4,i5,i6⟩:=Tb (hasF s.flags 32) s.ent s.data s.data.length (Af _);have ha:(Co (hasF s.flags 32) s.ent s.data s.data.length).2=s.data.length:=by
   cases h32:hasF s.flags 32 with
   |true=>
    rw[h32]at i2 i5;rcases hs h32 with h0|h0
    ·rw[h0];rfl
    ·by_cases hlt:(Co true s.ent s.data s.data.length).2 < s.data.length
     ·have hg:s.data[s.data.length - 1]?=some 0:=by rw[←List.getLast?_eq_getElem?];exact h0
      exact absurd rfl ((i5 rfl).1 (s.data.length - 1) 0 (by omega) (by omega) hg)
     ·omega
   |false=>
    rw[h32]at i2 i6;obtain⟨h1,h2⟩:=he h32;obtain⟨h3,h4⟩:=i6 rfl h1;rw[e1]at h2;have h5:s.ent ∣ ((s.data.length:Int) - ((Co false s.ent s.data s.data.length).2:Int)):=Int.dvd_sub h2 h4;have h6:=Int.emod_eq_of_lt (show 0≤(s.data.length:Int) - ((Co false s.ent s.data s.data.length).2:Int) by omega) h3;rw[Int.emod_eq_zero_of_dvd h5]at h6;omega
  rw[ha,←e1]at i1;refine⟨i1,by omega,fun p hp=>?_,fun h32 p hp=>?_⟩
  ·have:=i4 p hp;omega
  ·exact⟨(i4 p hp).2.2,(i5 h32).2 p hp⟩
def inB2(n:Nat)(at_:Int)(i:Nat)(p:PcD):Bool:=decide (p.at_≤at_)&&(decide (at_ < p.at_+p.size) || (((i:Int)==(n:Int) - 1)&&(at_==p.at_+p.size)))
def Ej(l:List PcD)(at_:Int):Nat→Int
 |0=>-1
 |i+1=>match l[i]? with
  |none=>Ej l at_ i
  |some p=>bif inB2 l.length at_ i p then(i:Int)else Ej l at_ i
def inP(l:List PcD)(at_:Int):Int:=Ej l at_ l.length
theorem Rt{l:List PcD}{at_:Int}{i:Nat}{p:PcD}(h:l[i]?=some p):Ej l at_ (i+1)=bif inB2 l.length at_ i p then(i:Int)else Ej l at_ i:=by
 show(match l[i]? with|none=>_|some p=>_)=_;rw[h]
theorem Jan{l:List PcD}{at_:Int}:∀k,k≤l.length→(∀i p,i < k→l[i]?=some p→inB2 l.length at_ i p=false)→Ej l at_ k= -1
 |0,_,_=>rfl
 |k+1,hk,h=>by
  have hx:l[k]?=some l[k]:=Ae (by omega);rw[Rt hx,h k _ (by omega) hx];exact Jan k (by omega) fun i p hi hp=>h i p (by omega) hp
theorem Yv{l:List PcD}{at_:Int}:∀k,k≤l.length→(∃i p,i < k∧l[i]?=some p∧inB2 l.length at_ i p=true)→∃(i:Nat)(p:PcD),Ej l at_ k=(i:Int)∧i < k∧l[i]?=some p∧inB2 l.length at_ i p=true
 |0,_,⟨i,p,hi,_⟩=>absurd hi (by omega)
 |k+1,hk,⟨i,p,hi,hp,hb⟩=>by
  have hx:l[k]?=some l[k]:=Ae (by omega);rw[Rt hx];cases hq:inB2 l.length at_ k l[k]with
  |true=>exact⟨k,l[k],rfl,by omega,hx,hq⟩
  |false=>
   have hne:i≠k:=fun e=>by
    subst e;rw[hx]at hp;cases hp;rw[hq]at hb;cases hb
   obtain⟨j,q,h1,h2,h3⟩:=Yv k (by omega) ⟨i,p,by omega,hp,hb⟩;exact⟨j,q,h1,by omega,h3⟩
theorem Hs{l:List PcD}{i:Nat}{p:PcD}(h:l[i]?=some p):Fr (l.take (i+1))=Fr (l.take i)+p.size:=by
 rw[List.take_add_one,h];exact Yo _ _
theorem Xn{l:List PcD}{at_:Int}(h0:0≤at_):∀k,at_ < Fr (l.take k)→∃j p,l[j]?=some p∧Fr (l.take j)≤at_∧at_ < Fr (l.take j)+p.size
 |0,h=>by simp[Fr]at h;omega
 |k+1,h=>by
  by_cases hk:at_ < Fr (l.take k)
  ·exact Xn h0 k hk
  ·cases hx:l[k]? with
   |none=>
    rw[List.take_add_one,hx]at h;simp at h;omega
   |some p=>exact⟨k,p,hx,by omega,by rw[←Hs hx];exact h⟩
theorem Zv{l:List PcD}{n at_:Int}(hb:∀p∈l,0≤p.at_∧0≤p.size∧p.at_+p.size≤n)(h:at_ < 0∨n < at_∨l.length=0):inP l at_= -1:=by
 refine Jan _ (Af _) fun i p hi hp=>?_;have:=hb p (Ad hp);unfold inB2;rcases h with h|h|h
 ·rw[Ai (by omega)];rfl
 ·rw[Ai (p:=at_ < p.at_+p.size) (by omega),show(at_==p.at_+p.size)=false by simp;omega];simp
 ·omega
theorem Jre{l:List PcD}{n at_:Int}(hc:Pj l n)(h0:0≤at_)(h1:at_≤n)(hl:0 < l.length):
 ∃(i:Nat)(p:PcD),inP l at_=(i:Int)∧i < l.length∧l[i]?=some p∧p.at_≤at_∧(at_ < p.at_+p.size∨at_=n∧(i:Int)=(l.length:Int) - 1):=by
 have hex:∃i p,i < l.length∧l[i]?=some p∧inB2 l.length at_ i p=true:=by
  by_cases hn:at_ < n
  ·have hn':at_ < Fr (l.take l.length):=by rw[List.take_length,hc.1];exact hn
   obtain⟨j,p,hp,g1,g2⟩:=Xn h0 _ hn';have hp2:=(hc.2 j p hp).1;refine⟨j,p,(Ab.1 hp).1,hp,?_⟩;unfold inB2;rw[Aj (show p.at_≤at_ by omega),Aj (show at_ < p.at_+p.size by omega)];rfl
  ·have hx:l[l.length - 1]?=some l[l.length - 1]:=Ae (by omega);have he:=Hs hx;rw[show l.length - 1+1=l.length by omega,List.take_length,hc.1]at he;have hp2:=hc.2 _ _ hx;refine⟨l.length - 1,_,by omega,hx,?_⟩;unfold inB2;rw[Aj (by omega),show(((l.length - 1:Nat):Int)==(l.length:Int) - 1)=true by simp;omega,show(at_==(l[l.length - 1]).at_+(l[l.length - 1]).size)=true by simp;omega];simp
 obtain⟨i,p,g1,g2,g3,g4⟩:=Yv l.length (Af _) hex;refine⟨i,p,g1,g2,g3,?_⟩;unfold inB2 at g4;rw[Bool.and_eq_true,Bool.or_eq_true,Bool.and_eq_true]at g4;obtain⟨x1,x2⟩:=g4;refine⟨of_decide_eq_true x1,?_⟩;rcases x2 with x2|⟨x2,x3⟩
 ·exact .inl (of_decide_eq_true x2)
 ·right;have y2:(i:Int)=(l.length:Int) - 1:=by simpa using x2
  have y3:at_=p.at_+p.size:=by simpa using x3
  have he:=Hs g3;rw[show i+1=l.length by omega,List.take_length,hc.1]at he;have hp2:=(hc.2 i p g3).1;exact⟨by omega,y2⟩
theorem Vm{s:Ca}:(piecesOf s).length=1∨∀p∈piecesOf s,1≤p.size:=by
 cases hq:hasF s.flags 16 with
 |false=>left;unfold piecesOf;rw[hq];rfl
 |true=>
  right;have e:piecesOf s=(Co (hasF s.flags 32) s.ent s.data s.data.length).1:=by unfold piecesOf;rw[hq];rfl
  rw[e];intro p hp;exact((Tb (hasF s.flags 32) s.ent s.data s.data.length (Af _)).2.2.2.1 p hp).2.1
structure Et where
 (off type add to_ at_:Int)
structure Ce where
 (obj sec pos:Int)
 (name:ByteArray)
 (type flags align ent size:Int)
 (data:List UInt8)
 (edges:List Et)
 (unique:Bool)
 (group link:Int)
structure NmD where
 (name:ByteArray)
 (to_ at_:Int)
structure Iq where
 (nodes:List Ce)
 (to_ at_:Int)
 (names:List NmD)
abbrev Sx:=Nat × Nat × Ca
abbrev eZ:Et:=⟨0,0,0,0,0⟩
def Cl(l:List Az):List Sx:=Bc Az.secs l l.length
def hasN(D:List (List Bool))(x:Sx):Bool:=hasF x.2.2.flags 2&& !((Cz D x.1)[x.2.1]?.getD false)
def Ch(D:List (List Bool))(x:Sx):List PcD:=bif hasN D x then piecesOf x.2.2 else []
def Fn(l:List Az)(i:Nat)(o:Az)(n:Int):Nat→Int
 |0=>0
 |k+1=>match o.groups[k]? with
  |none=>Fn l i o n k
  |some g=>bif g.members.contains n then((Bc Az.groups l i).length:Int)+(k:Int)+1 else Fn l i o n k
def Ht(l:List Az)(i:Nat):Az:=l[i]?.getD ⟨[], [], [],false, []⟩
def Gm(l:List Az)(i:Nat)(n:Int):Int:=Fn l i (Ht l i) n (Ht l i).groups.length
def Gk(l:List Az)(D:List (List Bool))(i n:Int)(x:Nat × Nat × Int):Bool:=(Ck l D x.1 x.2.2).2==0&&((Ck l D x.1 x.2.2).1.sec==n&&(Ck l D x.1 x.2.2).1.obj==i)
def Lm(l:List Az)(D:List (List Bool))(i n:Int):Bool:=(Bc Az.sig l l.length).any (Gk l D i n)
def Ml(l:List Az)(D:List (List Bool))(x:Sx):Bool:=bif hasF x.2.2.flags 16 then false else bif !(Ht l x.1).hasSig then true else Lm l D x.1 ((x.2.1:Int)+1)
def Cv(l:List Az)(D:List (List Bool))(i k:Nat):Nat:=((Bo Az.secs l i k).flatMap (Ch D)).length
def findPc(pcs:List PcD)(first:Nat)(at_:Int):Option (Int × Int):=if inP pcs at_ < 0 then none else(pcs[(inP pcs at_).toNat]?).map fun q=>((first:Int)+inP pcs at_,at_ - q.at_)
def findB(l:List Az)(D:List (List Bool))(p:Cq):Option (Int × Int):=if p.sec < 1 then none else match (Ht l p.obj.toNat).secs[(p.sec - 1).toNat]? with
 |none=>none
 |some s=>findPc (Ch D (p.obj.toNat,(p.sec - 1).toNat,s)) (Cv l D p.obj.toNat (p.sec - 1).toNat) p.at_
def Fz(l:List Az)(D:List (List Bool))(i:Nat)(r:Ea):Et × Int:=if(Ck l D i r.sym).2≠0 then(eZ,(Ck l D i r.sym).2)else if(Ck l D i r.sym).1.sec < 1 then(⟨r.off,r.type,r.add,-1,(Ck l D i r.sym).1.at_⟩,0)else match findB l D (Ck l D i r.sym).1 with
 |none=>(eZ,6)
 |some t=>(⟨r.off,r.type,r.add,t.1,t.2⟩,0)
def Bw:List Int→Int
 | []=>0
 |c::cs=>if c=0 then Bw cs else c
def Mk(s:Ca):List Ea:=bif hasF s.flags 16 then []else s.rels
def Da(l:List Az)(D:List (List Bool))(x:Sx):List Et:=(Mk x.2.2).map fun r=>(Fz l D x.1 r).1
def De(l:List Az)(D:List (List Bool))(x:Sx):List Int:=(Mk x.2.2).map fun r=>(Fz l D x.1 r).2
def Kr(l:List Az)(D:List (List Bool))(x:Sx):List Int:=(Ch D x).flatMap fun _=>De l D x
def Iv(s:Ca)(p:PcD):List UInt8:=bif s.type==1 then win s.data p.at_.toNat p.size.toNat else []
def mkN(l:List Az)(D:List (List Bool))(x:Sx)(p:PcD):Ce:=
 ⟨x.1,(x.2.1:Int)+1,p.at_,x.2.2.name,x.2.2.type,x.2.2.flags,x.2.2.align,x.2.2.ent,p.size,Iv x.2.2 p,Da l D x,Ml l D x,Gm l x.1 ((x.2.1:Int)+1),x.2.2.link⟩
def nodesOf(l:List Az)(D:List (List Bool))(xs:List Sx):List Ce:=xs.flatMap fun x=>(Ch D x).map (mkN l D x)
def Hf(l:List Az)(D:List (List Bool)):Int:=Bw ((Cl l).flatMap (Kr l D))
def Ih(l:List Az)(D:List (List Bool))(d:Bb):Option NmD:=if(Ck l D d.obj d.sym).2≠0 then none else(findB l D (Ck l D d.obj d.sym).1).map fun t=>⟨d.name,t.1,t.2⟩
def namesB(l:List Az)(D:List (List Bool))(defs:List Bb):List NmD:=defs.filterMap (Ih l D)
def Ha(l:List Az)(D:List (List Bool))(defs:List Bb)(entry:ByteArray):Option Iq × Int:=if Hf l D≠0 then(none,Hf l D)else match (namesB l D defs).find? fun n=>sEq n.name entry with
 |none=>(none,5)
 |some n=>(some ⟨nodesOf l D (Cl l),n.to_,n.at_,namesB l D defs⟩,0)
theorem Dx:∀a b:List Int,Bw (a++b)=if Bw a=0 then Bw b else Bw a
 | [],b=>by simp[Bw]
 |c::a,b=>by
  by_cases h:c=0
  ·simp only[List.cons_append,Bw,if_pos h];exact Dx a b
  ·simp only[List.cons_append,Bw,if_neg h]
theorem Jb0{a:List Int}(h:∀c∈a,0≤c∧c≤8):0≤Bw a∧Bw a≤8:=by
 induction a with
 |nil=>simp[Bw]
 |cons c a ih=>
  unfold Bw;split
  ·exact ih fun x hx=>h x (by simp[hx])
  ·exact h c (by simp)
theorem Zo{α:Type}{f:Az→List α}{l:List Az}{i k:Nat}:∀y∈Bo f l i k,y.1 < i∨y.1=i∧y.2.1 < k:=fun y hy=>(Ny.1 (show(y.1,y.2.1,y.2.2)∈_ from hy)).1
theorem Vv{α:Type}{f:Az→List α}{l:List Az}{i k:Nat}{o:Az}{x:α}(ho:l[i]?=some o)(hx:(f o)[k]?=some x):∀{n:Nat},i < n→∃rest,Bc f l n=Bo f l i k++(i,k,x)::rest∧∀y∈rest,i < y.1∨y.1=i∧k < y.2.1:=fun{n} hn=>by
 induction n with
 |zero=>omega
 |succ n ih=>
  by_cases h:i < n
  ·obtain⟨rest,e,hr⟩:=ih h;refine⟨rest++(match l[n]? with|some o=>Eh f n o|none=> []),?_,fun y hy=>?_⟩
   ·conv=>lhs;unfold Bc
    rw[e];cases l[n]?<;>simp
   ·rcases List.mem_append.1 hy with hy|hy
    ·exact hr y hy
    ·left;cases hq:l[n]? with
     |none=>rw[hq]at hy;cases hy
     |some o'=>
      rw[hq]at hy;simp only[Eh,List.mem_mapIdx]at hy;obtain⟨j,hj,rfl⟩:=hy;exact h
  ·obtain rfl:i=n:=by omega
   have hk:k < (Eh f i o).length:=by rw[He];exact(Ab.1 hx).1
   have hg:=(Ab.1 (Pn (i:=i) hx)).2;refine⟨(Eh f i o).drop (k+1),?_,fun y hy=>?_⟩
   ·show Bc f l i++(match l[i]? with|some o=>Eh f i o|none=> [])=(Bc f l i++(match l[i]? with|some o=>(Eh f i o).take k|none=> []))++_;rw[ho];simp only;rw[List.append_assoc];congr 1;rw[←hg,←List.drop_eq_getElem_cons hk,List.take_append_drop]
   ·right;obtain⟨j,hj⟩:=List.mem_iff_getElem?.1 hy;rw[List.getElem?_drop]at hj;simp only[Eh,List.getElem?_mapIdx]at hj;cases hq:(f o)[k+1+j]? with
    |none=>rw[hq]at hj;cases hj
    |some z=>
     rw[hq]at hj;cases hj;exact⟨rfl,by simp only;omega⟩
theorem Lv(l:List Az)(D:List (List Bool))(a b:List Sx):nodesOf l D (a++b)=nodesOf l D a++nodesOf l D b:=by simp[nodesOf]
theorem Gv(l:List Az)(D:List (List Bool))(a:List Sx):(nodesOf l D a).length=(a.flatMap (Ch D)).length:=by
 induction a with
 |nil=>rfl
 |cons x a ih=>simp only[nodesOf,List.flatMap_cons,List.length_append,List.length_map]at ih⊢;omega
theorem Mg{l:List Az}{D:List (List Bool)}{a:List Sx}{y:Ce}(h:y∈nodesOf l D a):∃x∈a,∃p∈Ch D x,y=mkN l D x p:=by
 unfold nodesOf at h;obtain⟨x,hx,hy⟩:=List.mem_flatMap.1 h;obtain⟨p,hp,rfl⟩:=List.mem_map.1 hy;exact⟨x,hx,p,hp,rfl⟩
def lastN(all:List Ce)(i:Nat)(x:Ce):Bool:=match all[i+1]? with
 |none=>true
 |some y=>y.obj != x.obj || y.sec != x.sec
def hitN(all:List Ce)(p:Cq)(i:Nat)(x:Ce):Bool:=bif (p.sec==0) || (x.obj != p.obj) || (x.sec != p.sec) || decide (p.at_ < x.pos)then false else decide (p.at_ < x.pos+x.size) || (lastN all i x&&(p.at_==x.pos+x.size))
def inNTo(all:List Ce)(p:Cq):Nat→Int
 |0=>-1
 |i+1=>match all[i]? with
  |none=>inNTo all p i
  |some x=>bif hitN all p i x then(i:Int)else inNTo all p i
def inN(all:List Ce)(p:Cq):Int:=inNTo all p all.length
theorem Pk{all:List Ce}{p:Cq}{n:Nat}:∀m,n≤m→(∀i x,n≤i→i < m→all[i]?=some x→hitN all p i x=false)→inNTo all p m=inNTo all p n
 |0,h,_=>by
  obtain rfl:n=0:=by omega
  rfl
 |m+1,h,hh=>by
  by_cases e:n=m+1
  ·rw[e]
  ·have ih:=Pk m (by omega) fun i x h1 h2=>hh i x h1 (by omega)
   conv=>lhs;unfold inNTo
   cases hq:all[m]? with
   |none=>exact ih
   |some x=>
    simp only;rw[hh m x (by omega) (by omega) hq];exact ih
theorem Jop{all:List Ce}{p:Cq}(h:p.sec=0):inN all p= -1:=by
 unfold inN;rw[Pk (n:=0) _ (Ak _) fun i x _ _ _=>by unfold hitN;rw[h];rfl];rfl
theorem Jd7{a b:Int}(h:a≠b):(a != b)=true:=by simpa using h
theorem Xy{all:List Ce}{p:Cq}{i:Nat}{x:Ce}(h:x.obj≠p.obj∨x.sec≠p.sec):hitN all p i x=false:=by
 unfold hitN;rcases h with h|h
 ·rw[Jd7 h];simp
 ·rw[Jd7 h];simp
theorem Tm{l:List PcD}{at_:Int}:∀k,Ej l at_ k < (k:Int)∧ -1≤Ej l at_ k
 |0=>by simp[Ej]
 |k+1=>by
  have:=Tm (l:=l) (at_:=at_) k;unfold Ej;cases l[k]? with
  |none=>simp only;omega
  |some p=>
   simp only;cases inB2 l.length at_ k p<;>simp only[cond_true,cond_false]<;>omega
theorem Jnl{l:List Az}{D:List (List Bool)}{i k:Nat}{o:Az}{s:Ca}{at_:Int}(ho:l[i]?=some o)(hs:o.secs[k]?=some s):
 inN (nodesOf l D (Cl l)) ⟨i,(k:Int)+1,at_⟩=(if inP (Ch D (i,k,s)) at_ < 0 then -1 else(Cv l D i k:Int)+inP (Ch D (i,k,s)) at_):=by
 obtain⟨rest,e,hr⟩:=Vv (f:=Az.secs) ho hs (n:=l.length) (Ab.1 ho).1;unfold Cl;rw[e,Lv,show nodesOf l D ((i,k,s)::rest)=(Ch D (i,k,s)).map (mkN l D (i,k,s))++nodesOf l D rest by simp[nodesOf]];have hf:(nodesOf l D (Bo Az.secs l i k)).length=Cv l D i k:=Gv _ _ _;have hpre:∀y∈nodesOf l D (Bo Az.secs l i k),y.obj≠(i:Int)∨y.sec≠(k:Int)+1:=fun y hy=>by
  obtain⟨x,hx,p,_,rfl⟩:=Mg hy;have:=Zo x hx;show(x.1:Int)≠i∨(x.2.1:Int)+1≠(k:Int)+1;omega
 have hpost:∀y∈nodesOf l D rest,y.obj≠(i:Int)∨y.sec≠(k:Int)+1:=fun y hy=>by
  obtain⟨x,hx,p,_,rfl⟩:=Mg hy;have:=hr x hx;show(x.1:Int)≠i∨(x.2.1:Int)+1≠(k:Int)+1;omega
 generalize nodesOf l D (Bo Az.secs l i k)=pre at*;generalize nodesOf l D rest=post at*;generalize hpc:Ch D (i,k,s)=pcs at*;rw[←hf];have hml:(pcs.map (mkN l D (i,k,s))).length=pcs.length:=by simp
 have hA:∀j p,pcs[j]?=some p→(pre++(pcs.map (mkN l D (i,k,s))++post))[pre.length+j]?=some (mkN l D (i,k,s) p):=fun j p hp=>by
  have hj:=(Ab.1 hp).1;rw[List.getElem?_append_right (by omega),List.getElem?_append_left (by simp;omega),List.getElem?_map,show pre.length+j - pre.length=j by omega,hp];rfl
 have hB:∀j,(pre++(pcs.map (mkN l D (i,k,s))++post))[pre.length+pcs.length+j]?=post[j]?:=fun j=>by
  rw[List.getElem?_append_right (by omega),List.getElem?_append_right (by simp;omega)];congr 1;simp;omega
 have hC:∀j,j < pre.length→(pre++(pcs.map (mkN l D (i,k,s))++post))[j]?=pre[j]?:=fun j hj=>List.getElem?_append_left hj;have hlen:(pre++(pcs.map (mkN l D (i,k,s))++post)).length=pre.length+pcs.length+post.length:=by simp;omega
 generalize hall:pre++(pcs.map (mkN l D (i,k,s))++post)=all at*;have s1:inNTo all ⟨i,(k:Int)+1,at_⟩ pre.length= -1:=by
  rw[Pk (n:=0) _ (Ak _) fun j x _ hj hx=>Xy (hpre x (Ad ((hC j hj).symm.trans hx)))];rfl
 have hit:∀j p,pcs[j]?=some p→hitN all ⟨i,(k:Int)+1,at_⟩ (pre.length+j) (mkN l D (i,k,s) p)=inB2 pcs.length at_ j p:=fun j p hp=>by
  have hj:=(Ab.1 hp).1;have hl:lastN all (pre.length+j) (mkN l D (i,k,s) p)=((j:Int)==(pcs.length:Int) - 1):=by
   unfold lastN;by_cases hj2:j+1 < pcs.length
   ·have:=hA (j+1) _ (Ae hj2);rw[show pre.length+j+1=pre.length+(j+1) by omega,this];have hne:((j:Int)==(pcs.length:Int) - 1)=false:=by simp;omega
    rw[hne];simp[mkN]
   ·obtain rfl:j=pcs.length - 1:=by omega
    have:=hB 0;rw[show pre.length+(pcs.length - 1)+1=pre.length+pcs.length+0 by omega,this];have he:(((pcs.length - 1:Nat):Int)==(pcs.length:Int) - 1)=true:=by simp;omega
    rw[he];cases hq:post[0]? with
    |none=>rfl
    |some y=>
     have:=hpost y (Ad hq);simp only[mkN,Bool.or_eq_true,bne_iff_ne];exact this
  have e1:hitN all ⟨i,(k:Int)+1,at_⟩ (pre.length+j) (mkN l D (i,k,s) p)=bif ((k:Int)+1==0) || ((i:Int) != (i:Int)) || ((k:Int)+1 != (k:Int)+1) || decide (at_ < p.at_)then false else decide (at_ < p.at_+p.size) || (lastN all (pre.length+j) (mkN l D (i,k,s) p)&&(at_==p.at_+p.size)):=rfl
  rw[e1,hl,bne_self_eq_false,bne_self_eq_false];unfold inB2;have h0:((k:Int)+1==0)=false:=by simp;omega
  rw[h0];simp only[Bool.or_false,Bool.false_or];by_cases h:p.at_≤at_
  ·rw[Ai (show¬at_ < p.at_ by omega),Aj h];rfl
  ·rw[Aj (show at_ < p.at_ by omega),Ai h];rfl
 have s2:∀j,j≤pcs.length→inNTo all ⟨i,(k:Int)+1,at_⟩ (pre.length+j)=(if Ej pcs at_ j < 0 then -1 else(pre.length:Int)+Ej pcs at_ j):=fun j=>by
  induction j with
  |zero=>intro _;rw[Nat.add_zero,s1];simp[Ej]
  |succ j ih=>
   intro hj;have ih:=ih (by omega);have hp:pcs[j]?=some pcs[j]:=Ae (by omega);rw[show pre.length+(j+1)=(pre.length+j)+1 by omega]
   conv=>lhs;unfold inNTo
   rw[hA j _ hp,Rt hp];simp only;rw[hit j _ hp];cases inB2 pcs.length at_ j pcs[j]with
   |true=>simp only[cond_true];rw[if_neg (by omega)];omega
   |false=>simp only[cond_false];exact ih
 unfold inN;rw[hlen,Pk (n:=pre.length+pcs.length) _ (by omega) fun j x h1 h2 hx=>Xy (hpost x (Ad (i:=j - (pre.length+pcs.length)) (by rw[←hB,show pre.length+pcs.length+(j - (pre.length+pcs.length))=j by omega];exact hx))),s2 pcs.length (Af _)];rfl
theorem Xm(w:World)(o:Obj):Below w.heap.size w (w.drew.alloc o):=(Ag _ w).drew.alloc (by simp) o
theorem Cd{P:Program}(w:World){ops:Array Oper}{rest:List Oper}{o:Oper}{a:Act}{Q:Exit→Act→World→Prop}(hgd:o.guard=none)(s x:Operand)(t:TypeId)
 (ho:o.op= .call {callee:= .builtin .append,args:=#[s,x],argTypes:=#[t,t]})
 (base:Nat)(e:TypeId)(i:TypeInfo)(ht:P.underlying t=some (.slice e))(hi:P.info? e=some i)(hz:i.zero=some (.int .u8 0))(hs:i.size=1)(hb:i.bytes=1)
 (v:Value)(n:Nat)(l:List UInt8)(hes:a.eval s=v)(hown:w.ownsRow base e 1 v n (l.map u8v))(q:Option Addr)(m c:Nat)(r:List UInt8)(hex:a.eval x= .slice q m c)(hq:Has w q r)(hr:r.length=m)(hcq:q=none→c=0)
 (hbig:n+m≤1000000000)(hbase:base≤w.heap.size)
 (h:∀v' w',w'.ownsRow base e 1 v' (n+m) ((l++r).map u8v)→w.grownBy w' v.ownBlock→(v'.ownBlock=v.ownBlock∨v'.ownBlock=some w.heap.size)→wpList P ops Q rest (a.put o.dst v') w'):wpList P ops Q (o::rest) a w:=by
 rcases q with _|ad
 ·have hr0:r= []:=by
   cases r with
   |nil=>rfl
   |cons y r=>obtain⟨a,e,_⟩:=hq 0 y rfl;cases e
  subst hr0;have hm:m=0:=hr.symm;subst hm;rw[hcq rfl]at hex;exact wpList_append_own_none hgd s x t ho base e i 1 ht hi v n _ hes hown hex (h v w (by simpa using hown) (World.grownBy.refl w _) (.inl rfl))
 ·exact wpList_append_own_at w hgd s x t ho base e i (.int .u8 0) 1 1 ht hi hz hs hb rfl (by decide) v n _ hes hown ad m c (r.map u8v) hex (by simp[hr]) hq.cells (Kv _) (by unfold maxLen;omega) (by omega) hbase
   fun v' w' h1 h2 _ h4=>h v' w' (by rw[List.map_append];exact h1) h2 h4
theorem Tryz.infoRefPiece:(Tryz.prog.info? 220).map (fun i=>(i.zero,i.size,i.bytes))=some (some (.agg #[.int .i64 0,.int .i64 0]),2,16):=by kernel_rfl
def Me(T:TypeId)(l:List PcD)(w:World)(e:Ending)(w':World):Prop:=∃v,e= .returned v∧w'.ownsRow w.heap.size T 2 v l.length (pcV l)∧Below w.heap.size w w'
theorem Rs(w:World)(x y:Int)(t:TypeId):∀j z, [Value.int .i64 x,.int .i64 y][j]?=some z→(w.alloc (.cells #[.int .i64 x,.int .i64 y] t)).cell? ((⟨w.heap.size,0,none⟩:Addr).add j)=some z:=fun j z hj=>by
 match j,hj with
 |0,hj=>simp at hj;subst hj;simp[Addr.add]
 |1,hj=>simp at hj;subst hj;simp[Addr.add]
theorem Uc(x y:Int):∀u∈ [Value.int .i64 x,.int .i64 y],u.oneCell'=true:=fun u hu=>by
 simp at hu;rcases hu with rfl|rfl<;>rfl
def Jca(s:Ca):Prop:=(-9223372036854775808≤s.flags∧s.flags≤9223372036854775807)∧(-9223372036854775808≤s.ent∧s.ent≤9223372036854775807)∧(-9223372036854775808≤s.size∧s.size≤9223372036854775807)
theorem Jc9(s:Ca)(dp:Option Addr)(dc:Nat)(vr:Value)(w:World)(hd:Bg 1 Ds w dp s.data)(hbd:Jca s)(hdl:s.data.length≤100000):
 Calls Tryz.prog 117 #[Ji6 s (.slice dp s.data.length dc) vr] w (Me 220 (piecesOf s) w):=by
 obtain⟨i0,hi,hz0,hz1,hz2⟩:=info_parts Tryz.infoRefPiece;have HI:=Aa hi;have H0:=Aa hz0;have H1:=Aa hz1;have H2:=Aa hz2;have hb1:Below w.heap.size w (w.alloc (.cells #[.string s.name,.int .i64 s.type,.int .i64 s.flags,.int .i64 s.align,.int .i64 s.ent,.int .i64 s.link,.int .i64 s.size,.slice dp s.data.length dc,vr] 89)):=(Ag _ w).alloc (Af _) _;have hd1:=hd.below Ds.keeps hb1;have hcell:∀i v,(#[.string s.name,.int .i64 s.type,.int .i64 s.flags,.int .i64 s.align,.int .i64 s.ent,.int .i64 s.link,.int .i64 s.size,.slice dp s.data.length dc,vr]:Array Value)[i]?=some v→(w.alloc (.cells #[.string s.name,.int .i64 s.type,.int .i64 s.flags,.int .i64 s.align,.int .i64 s.ent,.int .i64 s.link,.int .i64 s.size,.slice dp s.data.length dc,vr] 89)).cell? ⟨w.heap.size,i,none⟩=some v:=fun i v hv=>
  (Am _ w.heap.size i _ 89 (0,0) (Ah w _)).trans hv
 have a0:=hcell 0 _ rfl;have a1:=hcell 1 _ rfl;have a2:=hcell 2 _ rfl;have a3:=hcell 3 _ rfl;have a4:=hcell 4 _ rfl;have a5:=hcell 5 _ rfl;have a6:=hcell 6 _ rfl;have a7:=hcell 7 _ rfl;have a8:=hcell 8 _ rfl;have HM:=Aa fun W=>Kc s.name s.type s.flags s.align s.ent s.link s.size (.slice dp s.data.length dc) vr 16 W (by omega) (by omega) hbd.1;have HS:=Aa fun W=>Kc s.name s.type s.flags s.align s.ent s.link s.size (.slice dp s.data.length dc) vr 32 W (by omega) (by omega) hbd.1;have hpo:piecesOf s=bif hasF s.flags 16 then(Co (hasF s.flags 32) s.ent s.data s.data.length).1 else [⟨0,s.size⟩]:=rfl
 generalize hasF s.flags 16=q16 at*;generalize hasF s.flags 32=q32 at*;generalize piecesOf s=res at*;have HPO:=Aa hpo;have hent:=hbd.2.1;generalize hdln:s.data.length=dl at*;have HDL:=Aa hdln;have HD:=Aa hd1;clear hcell hd hd1 hi hz0 hz1 hz2 hpo hdln hbd;go_enter Tryz.func117,Tryz.ntmps117;go_upto_region 1 with fail
 generalize hgb:w.heap.size=gb at*;generalize w.alloc (.cells #[.string s.name,.int .i64 s.type,.int .i64 s.flags,.int .i64 s.align,.int .i64 s.ent,.int .i64 s.link,.int .i64 s.size,.slice dp dl dc,vr] 89)=W1 at*;go_wp2_with fail
 refine(HM.out _).mono ?_;rintro e w2 ⟨rfl,hb2⟩;have x0:=Ax hb2 a0;have x1:=Ax hb2 a1;have x2:=Ax hb2 a2;have x3:=Ax hb2 a3;have x4:=Ax hb2 a4;have x5:=Ax hb2 a5;have x6:=Ax hb2 a6;have x7:=Ax hb2 a7;have x8:=Ax hb2 a8;go_wp2_with fail
 refine(HS.out _).mono ?_;rintro e w3 ⟨rfl,hb3⟩;have hgW:gb < W1.heap.size:=Ao W1 _ a0;have hb23:Below W1.heap.size W1 w3:=hb2.trans (hb3.mono hb2.size);have y4:=Ax hb23 a4;have y6:=Ax hb23 a6;have y7:=Ax hb23 a7;have hbw:Below gb w w3:=hb1.trans (hb23.mono (by omega));have hg3:gb < w3.heap.size:=Ao w3 _ y4;have hdw:Hid (Bg 1 Ds w3 dp s.data):=Aa (HD.out.below Ds.keeps hb23);clear hb2 hb3 hb23 x0 x1 x2 x3 x4 x5 x6 x7 x8 a0 a1 a2 a3 a4 a5 a6 a7 a8 HD HM HS;cases q16 with
 |false=>
  have HP:Hid (res= [⟨0,s.size⟩]):=Aa HPO.out;go_wp2_with fail
  go_ret;subst hgb;refine⟨_,rfl,?_,hbw.alloc hbw.size _⟩;rw[HP.out];exact World.ownsRow_lit w3 #[.int .i64 0,.int .i64 s.size] 1 hbw.size (by unfold maxLen;omega) rfl
 |true=>
  have HP:Hid (res=(Co q32 s.ent s.data dl).1):=Aa HPO.out;clear HPO;go_wp2_with fail
  go_loopw [5,6,7] (fun r5 r6 r7 wr=>∃(k a:Nat)(l:List PcD),k≤dl∧r7= .int .i64 (k:Int)∧r6= .int .i64 (a:Int)∧Co q32 s.ent s.data k=(l,a)∧a≤k∧l.length≤k∧wr.ownsRow w3.heap.size 220 2 r5 l.length (pcV l)∧Below w3.heap.size w3 wr) (fun _ _ r7 _=>dl - (intOf r7).toNat)
  case atStart=>exact⟨0,0, [],Ak _,rfl,rfl,rfl,Af _,Af _,Aq _ _ _ _,Ag _ _⟩
  case round=>
   obtain⟨k,a,l,hk,rfl,rfl,hst,hak,hlk,hown,hb⟩:=hrel;have HST:=Aa hst;have z4:=Ax hb y4;have z7:=Ax hb y7;clear hst;by_cases hlt:k < dl
   ·obtain⟨b,off,x,rfl,hx,hxe⟩:=hdw.out.at_ (i:=k) (by rw[HDL.out];exact hlt);have f0:=Ax hb hxe;rw[Nat.mul_one]at f0;have HX:=Aa hx;have hJ:(k:Int) < (dl:Int):=by omega
    have hJ0:(0:Int)≤(k:Int):=by omega
    have k1:IntKind.i64.wrap ((k:Int)+1)=(k:Int)+1:=Al _ (by omega);have k2:IntKind.i64.wrap ((k:Int)+1 - (a:Int))=(k:Int)+1 - (a:Int):=Al _ (by omega);clear hx hxe;have hend:Xa q32 s.ent a k x=(bif q32 then((x.toNat:Int)==0)else((k:Int)+1 - (a:Int))==s.ent):=by
     unfold Xa;cases q32
     ·rfl
     ·show(x==0)=((x.toNat:Int)==0);by_cases h:x=0
      ·subst h;rfl
      ·have h2:¬x.toNat=0:=fun e=>h (UInt8.toNat_inj.1 (by simpa using e));have e1:(x==0)=false:=by simpa using h
       have e2:((x.toNat:Int)==0)=false:=by simp;omega
       rw[e1,e2]
    have HEND:=Aa hend;clear hend;cases he:Xa q32 s.ent a k x with
    |true=>
     have HN:=Aa (Pm HST.out HX.out he);have he2:=HEND.out.symm.trans he;have hgo:∀(v':Value)(w':World),w'.ownsRow w3.heap.size 220 2 v' (l.length+1) (pcV l++ [.int .i64 (a:Int),.int .i64 ((k:Int)+1 - (a:Int))])→w'.ownsRow w3.heap.size 220 2 v' (l++ [PcD.mk (a:Int) ((k:Int)+1 - (a:Int))]).length (pcV (l++ [PcD.mk (a:Int) ((k:Int)+1 - (a:Int))])):=fun v' w' h=>by
      rw[Pr,List.length_append];exact h
     have HGO:=Aa hgo;clear hgo;cases q32
     ·have he3:((k:Int)+1 - (a:Int)==s.ent)=true:=he2;clear he he2;go_wp2_with (at_builtin;refine wpList_append_own _ rfl (.tmp 42) (.tmp 49) 218 rfl w3.heap.size 220 i0 (.agg #[.int .i64 0,.int .i64 0]) 2 16 Tryz.underlying218 HI.out H0.out H1.out H2.out rfl (by decide) _ _ _ rfl (hown.alloc _) ⟨wr.heap.size,0,none⟩ 1 1 [.int .i64 (a:Int),.int .i64 ((k:Int)+1 - (a:Int))] rfl rfl (Rs wr _ _ _) (Uc _ _) (by unfold maxLen;omega) (by omega) (by have:=hb.size;simp;omega) ?_)
      intro v1 w4 hown4 hgrow4 _;have hb4:Below w3.heap.size w3 w4:=(hb.alloc hb.size _).grown hgrow4 (by have:=hb.size;simp;omega) (fun g hg=>(hown.lt g hg).1);have hown5:=HGO.out _ _ hown4;clear hgrow4 hown4 hown hb;go_wp2_with fail
      go_roundw
      case rel=>exact⟨k+1,k+1,_,hlt,by go_num,by go_num,HN.out,Af _,by simp;omega,hown5,hb4⟩
      case measure=>simp[intOf];omega
     ·have he3:((x.toNat:Int)==0)=true:=he2;clear he he2;go_wp2_with (at_builtin;refine wpList_append_own _ rfl (.tmp 42) (.tmp 49) 218 rfl w3.heap.size 220 i0 (.agg #[.int .i64 0,.int .i64 0]) 2 16 Tryz.underlying218 HI.out H0.out H1.out H2.out rfl (by decide) _ _ _ rfl (hown.alloc _) ⟨wr.heap.size,0,none⟩ 1 1 [.int .i64 (a:Int),.int .i64 ((k:Int)+1 - (a:Int))] rfl rfl (Rs wr _ _ _) (Uc _ _) (by unfold maxLen;omega) (by omega) (by have:=hb.size;simp;omega) ?_)
      intro v1 w4 hown4 hgrow4 _;have hb4:Below w3.heap.size w3 w4:=(hb.alloc hb.size _).grown hgrow4 (by have:=hb.size;simp;omega) (fun g hg=>(hown.lt g hg).1);have hown5:=HGO.out _ _ hown4;clear hgrow4 hown4 hown hb;go_wp2_with fail
      go_roundw
      case rel=>exact⟨k+1,k+1,_,hlt,by go_num,by go_num,HN.out,Af _,by simp;omega,hown5,hb4⟩
      case measure=>simp[intOf];omega
    |false=>
     have HN:=Aa (Qq HST.out HX.out he);have he2:=HEND.out.symm.trans he;cases q32
     ·have he3:((k:Int)+1 - (a:Int)==s.ent)=false:=he2;clear he he2;go_wp2_with fail
      go_roundw
      case rel=>exact⟨k+1,a,l,hlt,by go_num,rfl,HN.out,by omega,by omega,hown,hb⟩
      case measure=>simp[intOf];omega
     ·have he3:((x.toNat:Int)==0)=false:=he2;clear he he2;go_wp2_with fail
      go_roundw
      case rel=>exact⟨k+1,a,l,hlt,by go_num,rfl,HN.out,by omega,by omega,hown,hb⟩
      case measure=>simp[intOf];omega
   ·have hJ:¬(k:Int) < (dl:Int):=by omega
    have HE:Hid (res=l):=Aa (by rw[HP.out,show dl=k by omega,HST.out]);have HOW:=Aa hown;clear hown;go_wp2_with fail
    go_ret;subst hgb;refine⟨_,rfl,?_,hbw.trans (hb.mono (by omega))⟩;rw[HE.out];exact Cm HOW.out (by omega)
def Il(x:Et):List Value:= [.int .i64 x.off,.int .i64 x.type,.int .i64 x.add,.int .i64 x.to_,.int .i64 x.at_]
def Et.bd(x:Et):Prop:=Bn x.off∧Bn x.type∧Bn x.add∧Bn x.to_∧Bn x.at_
def Og(w:World)(b o:Nat)(x:Et):Prop:=Cc w b o x.off∧Cc w b (o+1) x.type∧Cc w b (o+2) x.add∧Cc w b (o+3) x.to_∧Cc w b (o+4) x.at_
theorem Og.keeps:Hb Og:=fun _ _ _ _ _ hb ⟨h0,h1,h2,h3,h4⟩=>⟨Cc.keeps _ _ _ _ _ hb h0,Cc.keeps _ _ _ _ _ hb h1,Cc.keeps _ _ _ _ _ hb h2,Cc.keeps _ _ _ _ _ hb h3,Cc.keeps _ _ _ _ _ hb h4⟩
theorem Jlr{w:World}{B:Nat}{T:TypeId}{v:Value}{l:List Et}(h:w.ownsRow B T 5 v l.length (l.flatMap Il))(hb:∀r∈l,r.bd):IsL 5 Og w v l:=by
 have:=Mo (k:=5) (f:=Il) (g:=id) (E:=Og) (fun _=>rfl) h (fun x hx b o hc=>by
  obtain⟨b0,b1,b2,b3,b4⟩:=hb x hx
  exact⟨⟨hc 0 _ rfl,b0⟩,⟨hc 1 _ rfl,b1⟩,⟨hc 2 _ rfl,b2⟩,⟨hc 3 _ rfl,b3⟩,⟨hc 4 _ rfl,b4⟩⟩)
 simpa using this
def nmC(x:NmD):List Value:= [.string x.name,.int .i64 x.to_,.int .i64 x.at_]
def NmD.bd(x:NmD):Prop:=x.name.size≤maxLen∧Bn x.to_∧Bn x.at_
def ENm(w:World)(b o:Nat)(x:NmD):Prop:=Rr w b o x.name∧Cc w b (o+1) x.to_∧Cc w b (o+2) x.at_
theorem ENm.keeps:Hb ENm:=fun _ _ _ _ _ hb ⟨h0,h1,h2⟩=>⟨Rr.keeps _ _ _ _ _ hb h0,Cc.keeps _ _ _ _ _ hb h1,Cc.keeps _ _ _ _ _ hb h2⟩
theorem Jaa{w:World}{B:Nat}{T:TypeId}{v:Value}{l:List NmD}(h:w.ownsRow B T 3 v l.length (l.flatMap nmC))(hb:∀r∈l,r.bd):IsL 3 ENm w v l:=by
 have:=Mo (k:=3) (f:=nmC) (g:=id) (E:=ENm) (fun _=>rfl) h (fun x hx b o hc=>by
  obtain⟨b0,b1,b2⟩:=hb x hx
  exact⟨⟨hc 0 _ rfl,b0⟩,⟨hc 1 _ rfl,b1⟩,⟨hc 2 _ rfl,b2⟩⟩)
 simpa using this
def Jg(w:World)(b o:Nat)(x:Ce):Prop:=
 Cc w b o x.obj∧Cc w b (o+1) x.sec∧Cc w b (o+2) x.pos∧Rr w b (o+3) x.name∧Cc w b (o+4) x.type∧Cc w b (o+5) x.flags∧Cc w b (o+6) x.align∧Cc w b (o+7) x.ent∧Cc w b (o+8) x.size∧
 (∃v,w.cell? ⟨b,o+9,none⟩=some v∧IsL 1 Ds w v x.data)∧(∃v,w.cell? ⟨b,o+10,none⟩=some v∧IsL 5 Og w v x.edges)∧Ij w b (o+11) x.unique∧Cc w b (o+12) x.group∧Cc w b (o+13) x.link
theorem Jg.keeps:Hb Jg:=fun _ _ _ _ _ hb ⟨h0,h1,h2,h3,h4,h5,h6,h7,h8,⟨v9,c9,h9⟩,⟨v10,c10,h10⟩,h11,h12,h13⟩=>
 ⟨Cc.keeps _ _ _ _ _ hb h0,Cc.keeps _ _ _ _ _ hb h1,Cc.keeps _ _ _ _ _ hb h2,Rr.keeps _ _ _ _ _ hb h3,Cc.keeps _ _ _ _ _ hb h4,Cc.keeps _ _ _ _ _ hb h5,Cc.keeps _ _ _ _ _ hb h6,Cc.keeps _ _ _ _ _ hb h7,Cc.keeps _ _ _ _ _ hb h8,
  ⟨v9,Cf hb c9,h9.below Ds.keeps hb⟩,⟨v10,Cf hb c10,h10.below Og.keeps hb⟩,Ij.keeps _ _ _ _ _ hb h11,Cc.keeps _ _ _ _ _ hb h12,Cc.keeps _ _ _ _ _ hb h13⟩
structure Bp where
 (x:Ce)
 (d e:Value)
def Bp.cells(n:Bp):List Value:= [.int .i64 n.x.obj,.int .i64 n.x.sec,.int .i64 n.x.pos,.string n.x.name,.int .i64 n.x.type,.int .i64 n.x.flags,.int .i64 n.x.align,.int .i64 n.x.ent,.int .i64 n.x.size,n.d,n.e,.bool n.x.unique,.int .i64 n.x.group,.int .i64 n.x.link]
def Ce.bd(x:Ce):Prop:=Bn x.obj∧Bn x.sec∧Bn x.pos∧x.name.size≤maxLen∧Bn x.type∧Bn x.flags∧Bn x.align∧Bn x.ent∧Bn x.size∧Bn x.group∧Bn x.link
def Bp.ok(n:Bp)(N:Nat)(w:World):Prop:=w.ownsRow N 5 1 n.d n.x.data.length (n.x.data.map u8v)∧w.ownsRow N 92 5 n.e n.x.edges.length (n.x.edges.flatMap Il)∧(∀r∈n.x.edges,r.bd)∧n.x.bd
theorem Bp.ok.fr{n:Bp}{N M:Nat}{Ts:List TypeId}{w w':World}(h:n.ok N w)(hf:FrT M Ts w w')(h1:5∉Ts)(h2:92∉Ts):n.ok N w':=⟨hf.owns h.1 h1,hf.owns h.2.1 h2,h.2.2⟩
theorem Bp.ok.below{n:Bp}{N:Nat}{w w':World}(h:n.ok N w)(hb:Below w.heap.size w w'):n.ok N w':=⟨Bd h.1 hb,Bd h.2.1 hb,h.2.2⟩
theorem Bp.ok.lower{n:Bp}{N M:Nat}{w:World}(h:n.ok N w)(hM:M≤N):n.ok M w:=⟨Cm h.1 hM,Cm h.2.1 hM,h.2.2⟩
theorem Jay{w:World}{B N:Nat}{T:TypeId}{v:Value}{l:List Bp}(h:w.ownsRow B T 14 v l.length (l.flatMap Bp.cells))(ho:∀n∈l,n.ok N w):IsL 14 Jg w v (l.map Bp.x):=
 Mo (k:=14) (f:=Bp.cells) (fun _=>rfl) h (fun x hx b o hc=>by
  obtain⟨h1,h2,h3,b0,b1,b2,b3,b4,b5,b6,b7,b8,b12,b13⟩:=ho x hx
  exact⟨⟨hc 0 _ rfl,b0⟩,⟨hc 1 _ rfl,b1⟩,⟨hc 2 _ rfl,b2⟩,⟨hc 3 _ rfl,b3⟩,⟨hc 4 _ rfl,b4⟩,⟨hc 5 _ rfl,b5⟩,⟨hc 6 _ rfl,b6⟩,⟨hc 7 _ rfl,b7⟩,⟨hc 8 _ rfl,b8⟩,⟨x.d,hc 9 _ rfl,Jk8 h1⟩,⟨x.e,hc 10 _ rfl,Jlr h2 h3⟩,hc 11 _ rfl,⟨hc 12 _ rfl,b12⟩,⟨hc 13 _ rfl,b13⟩⟩)
def Gr(w:World)(cs:Array Value):Option Iq→Prop
 |none=>cs= #[.slice none 0 0,.int .i64 0,.int .i64 0,.slice none 0 0]
 |some g=>∃v0 v3,cs= #[v0,.int .i64 g.to_,.int .i64 g.at_,v3]∧IsL 14 Jg w v0 g.nodes∧IsL 3 ENm w v3 g.names
theorem Gr.below{w w':World}{cs:Array Value}{g:Option Iq}(h:Gr w cs g)(hb:Below w.heap.size w w'):Gr w' cs g:=by
 cases g with
 |none=>exact h
 |some g=>
  obtain⟨v0,v3,e,h0,h3⟩:=h;exact⟨v0,v3,e,h0.below Jg.keeps hb,h3.below ENm.keeps hb⟩
structure SecG(s:Ca):Prop where
 facts:Mr s
 bd:Jca s
 kind:s.type=1∧s.size=(s.data.length:Int)∨s.type=8∧s.data.length=0
 few:s.data.length≤16384
 rels:hasF s.flags 16=true→s.rels= []
 link:s.rels.length≤100
def Gi(l:List Az):Prop:=∀o∈l,∀s∈o.secs,SecG s
theorem Wu{s:Ca}(h:SecG s):Mk s=s.rels:=by
 unfold Mk;cases hq:hasF s.flags 16 with
 |false=>rfl
 |true=>rw[h.rels hq];rfl
end Go.Proofs.YteopgmieindojaaGreat
