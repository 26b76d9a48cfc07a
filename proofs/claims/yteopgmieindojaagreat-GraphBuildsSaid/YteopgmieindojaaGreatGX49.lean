/- Parts of a proof. -/
import Derived.Test.YteopgmieindojaaGreatGX48
import Derived.Lib.IfaceEq
import Derived.Test.YteopgmieindojaaGreatGX42
import Derived.OwnWalk
import Derived.Test.YteopgmieindojaaGreatGX01
set_option maxRecDepth 1000000
set_option maxHeartbeats 8000000
namespace Go.Proofs.YteopgmieindojaaGreat
open Go.RowKit
abbrev Sb:Array Value:=#[.int .u8 195,.int .u8 0,.int .u8 0,.int .u8 0,.int .u8 0,.int .u8 0,.int .u8 0,.int .u8 0]
abbrev Ym:Array Value:=#[.int .i64 0,.int .i64 1,.int .i64 1,.int .i64 3]
abbrev Rh (gd gr:Nat):Array Value:=#[.string Qe,.int .i64 1,.int .i64 6,.int .i64 1,.int .i64 0,.int .i64 0,.int .i64 8,.slice (some ⟨gd,0,none⟩) 8 8,.slice (some ⟨gr,0,none⟩) 1 1]
theorem Jgd{fn:Func}{p:Tmp}(h:fn.results= #[.cell p 89])(tmps:Array Value)(w:World)(g:Nat)(v0 v1 v2 v3 v4 v5 v6 v7 v8:Value)(hp:tmps.getD p undef= .pointer (some ⟨g,0,none⟩))
 (hg:w.heap[g]?=some (.cells #[v0,v1,v2,v3,v4,v5,v6,v7,v8] 89 (0,0))):(results fn tmps).run Tryz.prog w= .ok (.agg #[v0,v1,v2,v3,v4,v5,v6,v7,v8]) w:=by
 have hc:∀j v,(#[v0,v1,v2,v3,v4,v5,v6,v7,v8]:Array Value)[j]?=some v→w.cell? ⟨g,j,none⟩=some v:=fun j v hv=>(Am w g j _ _ (0,0) hg).trans hv;have r0:=hc 0 _ rfl;have r1:=hc 1 _ rfl;have r2:=hc 2 _ rfl;have r3:=hc 3 _ rfl;have r4:=hc 4 _ rfl;have r5:=hc 5 _ rfl;have r6:=hc 6 _ rfl;have r7:=hc 7 _ rfl;have r8:=hc 8 _ rfl;clear hc;have hp2:tmps[p]?.getD undef= .pointer (some ⟨g,0,none⟩):=by simpa using hp
 simp[results,h,hp2,go_sem,r0,r1,r2,r3,r4,r5,r6,r7,r8]
theorem Tryz.sizeSec:(Tryz.prog.info? 89).map (·.size)=some 9:=by kernel_rfl
theorem Jnk(a:ByteArray)(b c d e f g:Int)(p q:Option Addr)(n m k l:Nat):(#[Value.string a,.int .i64 b,.int .i64 c,.int .i64 d,.int .i64 e,.int .i64 f,.int .i64 g,.slice p n m,.slice q k l]:Array Value).all (·.oneCell')=true:=by simp[Value.oneCell']
theorem Jln(gr:Nat)(w:World):Calls Tryz.prog 67 #[.slice (some ⟨gr,0,none⟩) 1 1] w fun e w'=>∃gd,e= .returned (.agg (Rh gd gr))∧w'.heap[gd]?=some (.cells Sb 5 (0,0))∧Below w.heap.size w w':=by
 have hZ:=Ah w (.cells #[.string ⟨#[]⟩,.int .i64 0,.int .i64 0,.int .i64 0,.int .i64 0,.int .i64 0,.int .i64 0,.slice none 0 0,.slice none 0 0] 89);have hb1:Below w.heap.size w (w.alloc (.cells #[.string ⟨#[]⟩,.int .i64 0,.int .i64 0,.int .i64 0,.int .i64 0,.int .i64 0,.int .i64 0,.slice none 0 0,.slice none 0 0] 89)):=(Ag _ w).alloc (Af _) _;obtain⟨gb,hgb⟩:∃gb,gb=w.heap.size:=⟨_,rfl⟩
 have HGB:=Aa hgb;rw[←hgb]at hZ hb1;have HB1:=Aa hb1;have HZ:=Aa hZ;clear hgb hb1 hZ;go_enter Tryz.func67,Tryz.ntmps67;go_upto_region 1 with fail
 generalize w.alloc (.cells #[.string ⟨#[]⟩,.int .i64 0,.int .i64 0,.int .i64 0,.int .i64 0,.int .i64 0,.int .i64 0,.slice none 0 0,.slice none 0 0] 89)=w1 at*;rw[←HGB.out];have hD:=Ah w1 (.cells Sb 5);have hb2:Below w1.heap.size w1 (w1.alloc (.cells Sb 5)):=(Ag _ w1).alloc (Af _) _;have hgs:gb < w1.heap.size:=(Ac.1 HZ.out).1;have hZ2:=(hb2.block gb hgs).trans HZ.out;have hset:=Jbh (Rh w1.heap.size gr) (Af gb) hZ2;have HST:=Aa hset;have HD:=Aa (hset.2.heap hD (by decide));have HB:=Aa ((HB1.out.trans (hb2.mono (Ar hgs))).trans (hset.2.below (by simp;omega)));have HZ2:=Aa hZ2;have HSZ:=Aa Tryz.sizeSec;clear hset hZ2 hD hb2;go_wp2_with (first|(refine wpList_store_row rfl 89 _ _ rfl gb (Rh w1.heap.size gr) rfl rfl 89 #[.string ⟨#[]⟩,.int .i64 0,.int .i64 0,.int .i64 0,.int .i64 0,.int .i64 0,.int .i64 0,.slice none 0 0,.slice none 0 0] HZ2.out HSZ.out rfl (Jnk _ _ _ _ _ _ _ _ _ _ _ _ _) ?_)|fail)
 exact bodyPost_ret (Jgd rfl _ _ _ _ _ _ _ _ _ _ _ _ (by rfl) HST.out.1) rfl ⟨_,rfl,HD.out,by rw[←HGB.out];exact HB.out⟩
def Xz:Array Value:=#[.string ⟨#[]⟩,.int .i64 0,.int .i64 0,.int .i64 0,.int .i64 0,.int .i64 0,.string nmF,.int .i64 1,.int .i64 0,.int .i64 1,.int .i64 0,.int .i64 0]
abbrev Lt (gs gy:Nat):Array Value:=#[.slice (some ⟨gs,0,none⟩) 1 1,.slice (some ⟨gy,0,none⟩) 2 2,.slice none 0 0,.bool false,.slice none 0 0]
theorem Jpm{W:World}{g:Nat}(h:W.heap[g]?=some (.cells Sb 5 (0,0))):IsL 1 Ds W (.slice (some ⟨g,0,none⟩) 8 8) gS.data:=by
 refine⟨some ⟨g,0,none⟩,8,rfl,Af _,by unfold maxLen;omega,(fun h=>by cases h),fun i x hx=>⟨g,0,rfl,?_⟩⟩;unfold Ds;rw[Am W g _ _ _ (0,0) h,Nat.zero_add,Nat.mul_one]
 match i,hx with
 |0,hx=>cases hx;rfl
 |1,hx=>cases hx;rfl
 |2,hx=>cases hx;rfl
 |3,hx=>cases hx;rfl
 |4,hx=>cases hx;rfl
 |5,hx=>cases hx;rfl
 |6,hx=>cases hx;rfl
 |7,hx=>cases hx;rfl
theorem Jsj{W:World}{g:Nat}(h:W.heap[g]?=some (.cells Ym 94 (0,0))):IsL 4 Hk W (.slice (some ⟨g,0,none⟩) 1 1) [gR]:=by
 refine⟨_,1,rfl,Af _,by unfold maxLen;omega,(fun h=>by cases h),Xb ?_⟩;refine⟨⟨?_,?_⟩,⟨?_,?_⟩,⟨?_,?_⟩,⟨?_,?_⟩⟩
 all_goals first|exact(Am _ _ _ _ _ (0,0) h).trans rfl|(refine⟨?_,?_⟩<;>decide)|fail
theorem Jot{W:World}{gd gr gs gy gl:Nat}(k0:W.heap[gd]?=some (.cells Sb 5 (0,0)))(k1:W.heap[gr]?=some (.cells Ym 94 (0,0)))(k2:W.heap[gs]?=some (.cells (Rh gd gr) 89 (0,0)))(k3:W.heap[gy]?=some (.cells Xz 98 (0,0)))(k4:W.heap[gl]?=some (.cells (Lt gs gy) 27 (0,0))):Bg 5 Cg W (some ⟨gl,0,none⟩) [gO]:=by
 refine Xb ?_;refine⟨.slice (some ⟨gs,0,none⟩) 1 1,.slice (some ⟨gy,0,none⟩) 2 2,.slice none 0 0,.slice none 0 0,?_,?_,?_,?_,?_,?_,?_,Je1,Je1⟩
 ·exact(Am _ _ _ _ _ (0,0) k4).trans rfl
 ·exact(Am _ _ _ _ _ (0,0) k4).trans rfl
 ·exact(Am _ _ _ _ _ (0,0) k4).trans rfl
 ·exact(Am _ _ _ _ _ (0,0) k4).trans rfl
 ·exact(Am _ _ _ _ _ (0,0) k4).trans rfl
 ·refine⟨_,1,rfl,Af _,by unfold maxLen;omega,(fun h=>by cases h),Xb ?_⟩;refine⟨⟨?_,?_⟩,⟨?_,?_⟩,⟨?_,?_⟩,⟨?_,?_⟩,⟨?_,?_⟩,⟨?_,?_⟩,⟨?_,?_⟩,⟨.slice (some ⟨gd,0,none⟩) 8 8,?_,Jpm k0⟩,⟨.slice (some ⟨gr,0,none⟩) 1 1,?_,Jsj k1⟩⟩
  all_goals first|exact(Am _ _ _ _ _ (0,0) k2).trans rfl|(refine⟨?_,?_⟩<;>decide)|(show(5:Nat)≤maxLen;unfold maxLen;omega)|fail
 ·refine⟨_,2,rfl,Af _,by unfold maxLen;omega,(fun h=>by cases h),Jof ?_ ?_⟩
  ·refine⟨⟨?_,?_⟩,⟨?_,?_⟩,⟨?_,?_⟩,⟨?_,?_⟩,⟨?_,?_⟩,⟨?_,?_⟩⟩
   all_goals first|exact(Am _ _ _ _ _ (0,0) k3).trans rfl|(refine⟨?_,?_⟩<;>decide)|(show(0:Nat)≤maxLen;exact Ak _)|fail
  ·refine⟨⟨?_,?_⟩,⟨?_,?_⟩,⟨?_,?_⟩,⟨?_,?_⟩,⟨?_,?_⟩,⟨?_,?_⟩⟩
   all_goals first|exact(Am _ _ _ _ _ (0,0) k3).trans rfl|(refine⟨?_,?_⟩<;>decide)|(show(1:Nat)≤maxLen;unfold maxLen;omega)|fail
theorem Jqe(w:World):Calls Tryz.prog 27 #[] w fun e w'=>e= .returned (.bool true)∧Below w.heap.size w w':=by
 have hR:=Ah w (.cells Ym 94);have hb1:Below w.heap.size w (w.alloc (.cells Ym 94)):=(Ag _ w).alloc (Af _) _;obtain⟨gb,hgb⟩:∃gb,gb=w.heap.size:=⟨_,rfl⟩
 have HGB:=Aa hgb;rw[←hgb]at hR hb1;have HR:=Aa hR;have HB1:=Aa hb1;obtain⟨w1,hw1⟩:∃w1,w1=w.alloc (.cells Ym 94):=⟨_,rfl⟩
 rw[←hw1]at HR HB1;have HC:=Jln gb w1;rw[hw1,hgb]at HC;have HCD:=Aa HC;have HW1:=Aa hw1;clear hgb hR hb1 HC hw1;go_enter Tryz.func27,Tryz.ntmps27
 go_upto_region 2 with(first|(go_at_call 67
                              refine HCD.out.mono ?_
                              rintro e w2 ⟨gd,rfl,hD2,hb2⟩)|fail)
 rw[←HW1.out]at hb2;rw[←HGB.out];obtain⟨k2,k3,k4,hb3⟩:=Tz w2 (.cells (Rh gd gb) 89) (.cells Xz 98) (.cells (Lt w2.heap.size (w2.heap.size+1)) 27);have hW0:Below w1.heap.size w1 (((w2.alloc (.cells (Rh gd gb) 89)).alloc (.cells Xz 98)).alloc (.cells (Lt w2.heap.size (w2.heap.size+1)) 27)):=hb2.trans (hb3.mono hb2.size);have k0:=(hb3.block gd (Ac.1 hD2).1).trans hD2;have k1:=(hW0.block gb (Ac.1 HR.out).1).trans HR.out;change Code.wp _ _ _ _ (((w2.alloc (.cells (Rh gd gb) 89)).alloc (.cells Xz 98)).alloc (.cells (Lt w2.heap.size (w2.heap.size+1)) 27));generalize (((w2.alloc (.cells (Rh gd gb) 89)).alloc (.cells Xz 98)).alloc (.cells (Lt w2.heap.size (w2.heap.size+1)) 27))=W at*;generalize w2.heap.size=g2 at*;have hb4:Below W.heap.size W (W.alloc (.cells (Lt g2 (g2+1)) 27)):=(Ag _ W).alloc (Af _) _;have k5:=Ah W (.cells (Lt g2 (g2+1)) 27);have hhas:=Jot ((hb4.block gd (Ac.1 k0).1).trans k0) ((hb4.block gb (Ac.1 k1).1).trans k1) ((hb4.block g2 (Ac.1 k2).1).trans k2) ((hb4.block (g2+1) (Ac.1 k3).1).trans k3) k5;have hobj:∀j v,(Lt g2 (g2+1):Array Value)[j]?=some v→W.cell? ⟨g2+1+1,j,none⟩=some v:=fun j v hv=>(Am W (g2+1+1) j _ _ (0,0) k4).trans hv;have o0:=hobj 0 _ rfl;have o1:=hobj 1 _ rfl;have o2:=hobj 2 _ rfl;have o3:=hobj 3 _ rfl;have o4:=hobj 4 _ rfl
 have HF:Hid (Calls Tryz.prog 28 #[.slice (some ⟨W.heap.size,0,none⟩) 1 1,.string ⟨#[102]⟩] (W.alloc (.cells (Lt g2 (g2+1)) 27)) fun e w'=>∃(pn:Option Addr)(cn:Nat)(pm:Option Addr)(cm:Nat),e= .returned (.tuple #[.agg #[.slice pn 1 cn,.int .i64 0,.int .i64 0,.slice pm 1 cm],.nilIface])∧Bg 14 Jg w' pn [gN]∧Below W.heap.size W w'):=Aa (by
  have h:=Sn (some ⟨W.heap.size,0,none⟩) 1 [gO] nmF _ hhas (by decide) Jdg;rw[gO_f]at h;refine h.mono fun e w' hE=>?_;obtain⟨cs,h1,⟨v0,v3,h2,h3,h4⟩,h5⟩:=hE;obtain⟨pn,cn,rfl,_,_,_,h6⟩:=h3;obtain⟨pm,cm,rfl,_⟩:=h4;subst h2
  exact⟨pn,cn,pm,cm,h1,h6,hb4.trans (h5.mono hb4.size)⟩)
 have HALL:=Aa (And.intro k0 (And.intro k1 (And.intro k2 (And.intro k3 k4))));have HWB:=Aa hW0;clear k0 k1 k2 k3 k4 k5 hhas hobj hb4 hb3 hb2 hD2 hW0
 go_upto_region 3 with(first|(go_at_call 28
                              refine HF.out.mono ?_
                              rintro e w5 ⟨pn,cn,pm,cm,rfl,hn5,hb5⟩)|fail)
 have hG6:=Ah w5 (.cells #[.slice pn 1 cn,.int .i64 0,.int .i64 0,.slice pm 1 cm] 77);have hb56:Below w5.heap.size w5 (w5.alloc (.cells #[.slice pn 1 cn,.int .i64 0,.int .i64 0,.slice pm 1 cm] 77)):=(Ag _ w5).alloc (Af _) _;generalize w5.alloc (.cells #[.slice pn 1 cn,.int .i64 0,.int .i64 0,.slice pm 1 cm] 77)=w6 at*;have hn6:=hn5.below Jg.keeps hb56;have hb6:=hb5.trans (hb56.mono hb5.size);have hg6:w5.heap.size < w6.heap.size:=(Ac.1 hG6).1;generalize w5.heap.size=g5 at*;obtain⟨k0,k1,k2,k3,k4⟩:=HALL.out;have k0':=(hb6.block gd (Ac.1 k0).1).trans k0;have k1':=(hb6.block gb (Ac.1 k1).1).trans k1;have k2':=(hb6.block g2 (Ac.1 k2).1).trans k2;have k3':=(hb6.block (g2+1) (Ac.1 k3).1).trans k3;have k4':=(hb6.block (g2+1+1) (Ac.1 k4).1).trans k4;have hb7:Below w6.heap.size w6 (w6.alloc (.cells (Lt g2 (g2+1)) 27)):=(Ag _ w6).alloc (Af _) _;have k5:=Ah w6 (.cells (Lt g2 (g2+1)) 27);have hhas:=Jot ((hb7.block gd (Ac.1 k0').1).trans k0') ((hb7.block gb (Ac.1 k1').1).trans k1') ((hb7.block g2 (Ac.1 k2').1).trans k2') ((hb7.block (g2+1) (Ac.1 k3').1).trans k3') k5
 have HG:Hid (Calls Tryz.prog 28 #[.slice (some ⟨w6.heap.size,0,none⟩) 1 1,.string ⟨#[103]⟩] (w6.alloc (.cells (Lt g2 (g2+1)) 27)) fun e w'=>e= .returned (.tuple #[.agg #[.slice none 0 0,.int .i64 0,.int .i64 0,.slice none 0 0],.iface 36 (.int .i64 5)])∧Below w6.heap.size w6 w'):=Aa (by
  have h:=Sn (some ⟨w6.heap.size,0,none⟩) 1 [gO] nmG _ hhas (by decide) Jdg;rw[gO_g]at h;refine h.mono fun e w' hE=>?_;obtain⟨cs,h1,h2,h5⟩:=hE;replace h2:cs= #[.slice none 0 0,.int .i64 0,.int .i64 0,.slice none 0 0]:=h2;subst h2
  exact⟨h1,hb7.trans (h5.mono hb7.size)⟩)
 have hobj:∀j v,(Lt g2 (g2+1):Array Value)[j]?=some v→w6.cell? ⟨g2+1+1,j,none⟩=some v:=fun j v hv=>(Am w6 (g2+1+1) j _ _ (0,0) k4').trans hv;clear o0 o1 o2 o3 o4;have o0:=hobj 0 _ rfl;have o1:=hobj 1 _ rfl;have o2:=hobj 2 _ rfl;have o3:=hobj 3 _ rfl;have o4:=hobj 4 _ rfl;have HN6:=Aa hn6;have HG6:=Aa hG6;have HB6:=Aa (HB1.out.trans (HWB.out.mono (by have:=HB1.out.size;rw[←HGB.out]at this;exact this)));have hbw6:Below w1.heap.size w1 w6:=HWB.out.trans (hb6.mono HWB.out.size);have HBW6:=Aa hbw6;clear k0 k1 k2 k3 k4 k0' k1' k2' k3' k4' k5 hhas hobj hb7 hb6 hb56 hb5 hn5 hn6 hG6 hbw6
 go_upto_region 4 with(first|(go_at_call 28
                              refine HG.out.mono ?_
                              rintro e w7 ⟨rfl,hb8⟩)|fail)
 have hb89:Below w6.heap.size w6 (w7.alloc (.cells #[.slice none 0 0,.int .i64 0,.int .i64 0,.slice none 0 0] 77)):=hb8.alloc hb8.size _;generalize w7.alloc (.cells #[.slice none 0 0,.int .i64 0,.int .i64 0,.slice none 0 0] 77)=w8 at*;generalize w7.heap.size=g7 at*;have hG8:=(hb89.block g5 hg6).trans HG6.out;have hn8:=HN6.out.below Jg.keeps hb89;have HBW8:=Aa (HBW6.out.trans (hb89.mono HBW6.out.size));obtain⟨y0,y1,y2,y3⟩:=Cp _ _ _ _ _ _ _ hG8;obtain⟨bn,on,x,hpn,hx,e0,e1,e2,e3,e4,e5,e6,e7,e8,⟨v9,c9,h9⟩,⟨v10,c10,h10⟩,e11,e12,e13⟩:=hn8.at_ (i:=0) (by decide);obtain rfl:gN=x:=by simpa using hx
 subst hpn;obtain⟨q9,d9,rfl,_⟩:=h9;obtain⟨q10,d10,rfl,_,_,_,h10⟩:=h10;obtain⟨be,oe,ed,hpe,hed,m0,m1,m2,m3,m4⟩:=h10.at_ (i:=0) (by decide);obtain rfl:(⟨0,1,3,0,0⟩:Et)=ed:=by simpa[gN]using hed
 subst hpe;have x0:=e0.1;have x1:=e1.1;have x2:=e2.1;have x3:=e3.1;have x4:=e4.1;have x5:=e5.1;have x6:=e6.1;have x7:=e7.1;have x8:=e8.1;have x12:=e12.1;have x13:=e13.1;have z0:=m0.1;have z1:=m1.1;have z2:=m2.1;have z3:=m3.1;have z4:=m4.1;clear hb8 hb89 hG8 hn8 hx hed h10 e0 e1 e2 e3 e4 e5 e6 e7 e8 e12 e13 m0 m1 m2 m3 m4 HALL o0 o1 o2 o3 o4;replace x0:w8.cell? ⟨bn,on,none⟩=some (.int .i64 0):=x0;replace x1:w8.cell? ⟨bn,on+1,none⟩=some (.int .i64 1):=x1;replace x2:w8.cell? ⟨bn,on+2,none⟩=some (.int .i64 0):=x2;replace x3:w8.cell? ⟨bn,on+3,none⟩=some (.string Qe):=x3;replace x4:w8.cell? ⟨bn,on+4,none⟩=some (.int .i64 1):=x4;replace x5:w8.cell? ⟨bn,on+5,none⟩=some (.int .i64 6):=x5;replace x6:w8.cell? ⟨bn,on+6,none⟩=some (.int .i64 1):=x6;replace x7:w8.cell? ⟨bn,on+7,none⟩=some (.int .i64 0):=x7;replace x8:w8.cell? ⟨bn,on+8,none⟩=some (.int .i64 8):=x8;replace x12:w8.cell? ⟨bn,on+12,none⟩=some (.int .i64 0):=x12;replace x13:w8.cell? ⟨bn,on+13,none⟩=some (.int .i64 0):=x13;replace c9:w8.cell? ⟨bn,on+9,none⟩=some (.slice q9 8 d9):=c9;replace c10:w8.cell? ⟨bn,on+10,none⟩=some (.slice (some ⟨be,oe,none⟩) 1 d10):=c10;replace e11:w8.cell? ⟨bn,on+11,none⟩=some (.bool true):=e11;replace z0:w8.cell? ⟨be,oe,none⟩=some (.int .i64 0):=z0;replace z1:w8.cell? ⟨be,oe+1,none⟩=some (.int .i64 1):=z1;replace z2:w8.cell? ⟨be,oe+2,none⟩=some (.int .i64 3):=z2;replace z3:w8.cell? ⟨be,oe+3,none⟩=some (.int .i64 0):=z3;replace z4:w8.cell? ⟨be,oe+4,none⟩=some (.int .i64 0):=z4;have hb9:Below w8.heap.size w8 (w8.alloc (.cells #[.int .i64 0,.int .i64 1,.int .i64 0,.string Qe,.int .i64 1,.int .i64 6,.int .i64 1,.int .i64 0,.int .i64 8,.slice q9 8 d9,.slice (some ⟨be,oe,none⟩) 1 d10,.bool true,.int .i64 0,.int .i64 0] 86)):=(Ag _ w8).alloc (Af _) _;have hX9:=Ah w8 (.cells #[.int .i64 0,.int .i64 1,.int .i64 0,.string Qe,.int .i64 1,.int .i64 6,.int .i64 1,.int .i64 0,.int .i64 8,.slice q9 8 d9,.slice (some ⟨be,oe,none⟩) 1 d10,.bool true,.int .i64 0,.int .i64 0] 86);have ceq:∀W:World,(binOp .neq 33 (.iface 36 (.int .i64 5)) (.iface 36 (.int .i64 5))).run Tryz.prog W= .ok (.bool false) W:=fun W=>by kernel_rfl
 have cel:∀W:World,(binOp .neq 33 .nilIface .nilIface).run Tryz.prog W= .ok (.bool false) W:=fun W=>by kernel_rfl
 have ced:∀W:World,(binOp .eql 92 (.agg #[.int .i64 0,.int .i64 1,.int .i64 3,.int .i64 0,.int .i64 0]) (.agg #[.int .i64 0,.int .i64 1,.int .i64 3,.int .i64 0,.int .i64 0])).run Tryz.prog W= .ok (.bool true) W:=fun W=>by kernel_rfl
 go_upto_region 7 with fail
 generalize w8.alloc (.cells #[.int .i64 0,.int .i64 1,.int .i64 0,.string Qe,.int .i64 1,.int .i64 6,.int .i64 1,.int .i64 0,.int .i64 8,.slice q9 8 d9,.slice (some ⟨be,oe,none⟩) 1 d10,.bool true,.int .i64 0,.int .i64 0] 86)=w9 at*;have n10:w9.cell? ⟨w8.heap.size,10,none⟩=some (.slice (some ⟨be,oe,none⟩) 1 d10):=(Am w9 w8.heap.size 10 _ _ (0,0) hX9).trans rfl;have n11:w9.cell? ⟨w8.heap.size,11,none⟩=some (.bool true):=(Am w9 w8.heap.size 11 _ _ (0,0) hX9).trans rfl;have y1':=Ax hb9 y1;have z0':=Ax hb9 z0;have z1':=Ax hb9 z1;have z2':=Ax hb9 z2;have z3':=Ax hb9 z3;have z4':=Ax hb9 z4;have HBW9:=Aa (HBW8.out.trans (hb9.mono HBW8.out.size));clear x0 x1 x2 x3 x4 x5 x6 x7 x8 x12 x13 c9 c10 e11 z0 z1 z2 z3 z4 y0 y1 y2 y3 hX9 hb9;generalize w8.heap.size=g8 at*;go_wp2_with fail
 go_ret;exact⟨rfl,by rw[←HGB.out];exact HB1.out.trans (HBW9.out.mono (by have:=HB1.out.size;rw[←HGB.out]at this;exact this))⟩
noncomputable def Jq(n:Nat):Code:=((Tryz.f6.body.bind (Hz n)).getD .skip)
noncomputable def Ji(n:Nat):Code:=((Tryz.f6.body.bind (Lo n)).getD .skip)
theorem Jqi:Ji 0= .seq (Jq 0) (Ji 1):=by kernel_rfl
theorem Jp8:Ji 1= .seq (Jq 1) (Ji 2):=by kernel_rfl
theorem Jpa:Ji 2= .seq (.seq (Jq 2) (.cond (.tmp 14) (.seq (Jq 3) .ret) .skip)) (Ji 4):=by kernel_rfl
theorem Jqk:Ji 4= .seq (Jq 4) (Ji 5):=by kernel_rfl
theorem Jpy:Ji 5= .seq (Jq 5) (Ji 6):=by kernel_rfl
theorem Jp5:Ji 6= .seq (Jq 6) (Ji 7):=by kernel_rfl
theorem Jp7:Ji 7= .seq (Jq 7) .ret:=by kernel_rfl
theorem Jk1(R:List Value)(v0 v1 v2 v3 v4 v5 v6 v7 v8 v9 v10:Value)(k:Nat):(⟨(List.toArray (v0::v1::v2::v3::v4::v5::v6::v7::v8::v9::v10::R)), []⟩:Act).eval (.tmp (11+k))=Ay R k:=by
 show Array.getD _ _ _=R.getD k undef;rw[Array.getD_eq_getD_getElem?,List.getElem?_toArray,List.getD_eq_getElem?_getD,show 11+k=k+11 by omega];rfl
theorem Ow(R:List Value)(h:R.length=30):R= [Ay R 0,Ay R 1,Ay R 2,Ay R 3,Ay R 4,Ay R 5,Ay R 6,Ay R 7,Ay R 8,Ay R 9,Ay R 10,Ay R 11,Ay R 12,Ay R 13,Ay R 14,Ay R 15,Ay R 16,Ay R 17,Ay R 18,Ay R 19,Ay R 20,Ay R 21,Ay R 22,Ay R 23,Ay R 24,Ay R 25,Ay R 26,Ay R 27,Ay R 28,Ay R 29]:=by
 have e:=Ra R;rw[h]at e;exact e.trans (by kernel_rfl)
theorem Jp2{P:Program}{Q:Exit→Act→World→Prop}{w:World}{c:Code}{v0 v1 v2 v3 v4 v5 v6 v7 v8 v9 v10:Value}{R:List Value}(h:R.length=30)(k:∀R:List Value,R.length=30→c.wp P Q ⟨(List.toArray (v0::v1::v2::v3::v4::v5::v6::v7::v8::v9::v10::R)), []⟩ w):c.wp P Q ⟨(List.toArray (v0::v1::v2::v3::v4::v5::v6::v7::v8::v9::v10::R)), []⟩ w:=k R h
theorem Po{w:World}{cs:Array Value}{r:Option Iq}(h:Gr w cs r):∃p0 n0 c0 t a p3 n3 c3,cs= #[.slice p0 n0 c0,.int .i64 t,.int .i64 a,.slice p3 n3 c3]:=by
 cases r with
 |none=>exact⟨_,_,_,_,_,_,_,_,h⟩
 |some g=>
  obtain⟨v0,v3,e,⟨p0,c0,rfl,_⟩,⟨p3,c3,rfl,_⟩⟩:=h;exact⟨_,_,_,_,_,_,_,_,e⟩
theorem Jky{l:List Az}{D:List (List Bool)}{i:Nat}{r:Ea}:0≤(Fz l D i r).2∧(Fz l D i r).2≤8:=by
 have h:=Jhc (l:=l) (D:=D) (o:=i) (s:=r.sym);unfold Fz;split
 ·exact h
 ·split
  ·exact⟨by show(0:Int)≤0;omega,by show(0:Int)≤8;omega⟩
  ·split
   ·exact⟨by show(0:Int)≤6;omega,by show(6:Int)≤8;omega⟩
   ·exact⟨by show(0:Int)≤0;omega,by show(0:Int)≤8;omega⟩
theorem Jnd{l:List Az}{D:List (List Bool)}:0≤Hf l D∧Hf l D≤8:=by
 unfold Hf;refine Jb0 fun c hc=>?_;obtain⟨x,_,hc⟩:=List.mem_flatMap.1 hc;unfold Kr De at hc;obtain⟨p,_,hc⟩:=List.mem_flatMap.1 hc;obtain⟨r,_,rfl⟩:=List.mem_map.1 hc;exact Jky
theorem Jh3{l:List Az}{mb:Bool}{en:ByteArray}:0≤(Ir l mb en).2∧(Ir l mb en).2≤8:=by
 have hr:0≤(Hi l mb).1∧(Hi l mb).1≤8:=by
  unfold Hi;cases mb with
  |false=>exact⟨by show(0:Int)≤1;omega,by show(1:Int)≤8;omega⟩
  |true=>
   simp only[cond_true];split
   ·exact⟨by show(0:Int)≤3;omega,by show(3:Int)≤8;omega⟩
   ·rename_i st _;cases st.2
    ·exact⟨by show(0:Int)≤0;omega,by show(0:Int)≤8;omega⟩
    ·exact⟨by show(0:Int)≤4;omega,by show(4:Int)≤8;omega⟩
 by_cases h:(Hi l mb).1=0
 ·rw[Rq h];unfold Ha;split
  ·exact Jnd
  ·split
   ·exact⟨by show(0:Int)≤5;omega,by show(5:Int)≤8;omega⟩
   ·exact⟨by show(0:Int)≤0;omega,by show(0:Int)≤8;omega⟩
 ·rw[Tf h];exact hr
theorem gwrg0(w:World)(Q:Exit→Act→World→Prop)(v0 v1 v2 v3 v4 v5 v6 v7 v8 v9 v10:Value)(R:List Value)(hR:R.length=30)
 (hQ:∀(R':List Value),R'.length=30→Q .normal ⟨(List.toArray (v0::v1::v2::v3:: .bool false::v5::v6::v7::v8::v9::v10::R')), []⟩ w):
 Code.wp Tryz.prog (Jq 0) Q ⟨(List.toArray (v0::v1::v2::v3::v4::v5::v6::v7::v8::v9::v10::R)), []⟩ w:=by
 have HQ:=Aa hQ;clear hQ;rw[Ow R hR]
 conv=>arg 2;whnf
 go_wp2_with fail
 exact HQ.out _ rfl
theorem gwrg1(w:World)(Q:Exit→Act→World→Prop)(v0 v1 v2 v3 v4 v5 v6 v7 v8 v9 v10:Value)(R:List Value)(hR:R.length=30)
 (hC:Calls Tryz.prog 27 #[] w fun e w'=>e= .returned (.bool true)∧Below w.heap.size w w')
 (hQ:∀(R':List Value)(w':World),R'.length=30→Below w.heap.size w w'→Q .normal ⟨(List.toArray (v0::v1::v2::v3::v4:: .bool true::v6::v7::v8::v9::v10::R')), []⟩ w'):
 Code.wp Tryz.prog (Jq 1) Q ⟨(List.toArray (v0::v1::v2::v3::v4::v5::v6::v7::v8::v9::v10::R)), []⟩ w:=by
 have HQ:=Aa hQ;clear hQ;rw[Ow R hR]
 conv=>arg 2;whnf
 have HC:=Aa hC;clear hC;go_wp2_with fail
 refine HC.out.mono ?_;rintro e w1 ⟨rfl,hb⟩;go_wp2_with fail
 exact HQ.out _ w1 rfl hb
theorem gwrg2(p:Option Addr)(ln c:Nat)(X:Int→Prop)(w:World)(Q:Exit→Act→World→Prop)(v1 v2 v3 v4 v5 v6 v7 v8 v9 v10:Value)(R:List Value)(hR:R.length=30)
 (hC:Calls Tryz.prog 18 #[.slice p ln c] w fun e w'=>(∃r:Int,e= .returned (.int .i64 r)∧X r)∧Below w.heap.size w w')
 (hQ:∀(R':List Value)(r:Int)(w':World),R'.length=30→X r→Ay R' 3= .bool (r==0)→Below w.heap.size w w'→Q .normal ⟨(List.toArray (.slice p ln c::v1::v2::v3::v4::v5::v6::v7::v8::v9::v10::R')), []⟩ w'):
 Code.wp Tryz.prog (Jq 2) Q ⟨(List.toArray (.slice p ln c::v1::v2::v3::v4::v5::v6::v7::v8::v9::v10::R)), []⟩ w:=by
 have HQ:=Aa hQ;clear hQ;rw[Ow R hR]
 conv=>arg 2;whnf
 have HC:=Aa hC;clear hC;go_wp2_with fail
 refine HC.out.mono ?_;rintro e w1 ⟨⟨r,rfl,hr⟩,hb⟩;have HR:=Aa hr;clear hr;go_wp2_with fail
 exact HQ.out _ r w1 rfl HR.out rfl hb
theorem gwrg3(w:World)(Q:Exit→Act→World→Prop)(v0 v1 v2 v3 v4 v6 v7 v8 v9 v10:Value)(R:List Value)(hR:R.length=30)
 (hQ:∀(R':List Value),R'.length=30→Q .normal ⟨(List.toArray (v0::v1::v2::v3:: .bool true:: .bool true::v6::v7::v8::v9::v10::R')), []⟩ w):
 Code.wp Tryz.prog (Jq 3) Q ⟨(List.toArray (v0::v1::v2::v3::v4:: .bool true::v6::v7::v8::v9::v10::R)), []⟩ w:=by
 have HQ:=Aa hQ;clear hQ;rw[Ow R hR]
 conv=>arg 2;whnf
 go_wp2_with fail
 exact HQ.out _ rfl
theorem gwrg4(p:Option Addr)(ln c:Nat)(en:ByteArray)(r:Option Iq × Int)(w:World)(Q:Exit→Act→World→Prop)(v2 v3 v4 v5 v6 v7 v8 v9 v10:Value)(R:List Value)(hR:R.length=30)
 (hC:Calls Tryz.prog 28 #[.slice p ln c,.string en] w (Jdz r w))
 (hQ:∀(R':List Value)(gg:Nat)(cs:Array Value)(w':World),R'.length=30→w'.heap[gg]?=some (.cells cs 77 (0,0))→Gr w' cs r.1→Below w.heap.size w w'→Q .normal ⟨(List.toArray (.slice p ln c:: .string en::v2::v3::v4::v5:: .pointer (some ⟨gg,0,none⟩)::Fk r.2::v8::v9::v10::R')), []⟩ w'):
 Code.wp Tryz.prog (Jq 4) Q ⟨(List.toArray (.slice p ln c:: .string en::v2::v3::v4::v5::v6::v7::v8::v9::v10::R)), []⟩ w:=by
 have HQ:=Aa hQ;clear hQ;rw[Ow R hR]
 conv=>arg 2;whnf
 have HC:=Aa hC;clear hC;go_wp2_with fail
 refine HC.out.mono ?_;rintro e w1 ⟨cs,rfl,hg,hb⟩;have HB:=Aa hb;have HG:=Aa hg;obtain⟨p0,n0,c0,t,a,p3,n3,c3,rfl⟩:=Po hg;clear hg hb;go_wp2_with fail
 exact HQ.out _ _ _ _ rfl (Ah w1 _) (HG.out.below ((Ag _ w1).alloc (Af _) _)) (HB.out.alloc HB.out.size _)
theorem gwrg5(p:Option Addr)(ln c:Nat)(en:ByteArray)(r:Option Iq × Int)(w:World)(Q:Exit→Act→World→Prop)(v2 v3 v4 v5 v6 v7 v8 v9 v10:Value)(R:List Value)(hR:R.length=30)
 (hC:Calls Tryz.prog 29 #[.slice p ln c,.string en] w (Jk0 r w))
 (hQ:∀(R':List Value)(gg:Nat)(cs:Array Value)(w':World),R'.length=30→w'.heap[gg]?=some (.cells cs 77 (0,0))→Gr w' cs r.1→Below w.heap.size w w'→Q .normal ⟨(List.toArray (.slice p ln c:: .string en::v2::v3::v4::v5::v6::v7:: .pointer (some ⟨gg,0,none⟩):: .int .i64 r.2::v10::R')), []⟩ w'):
 Code.wp Tryz.prog (Jq 5) Q ⟨(List.toArray (.slice p ln c:: .string en::v2::v3::v4::v5::v6::v7::v8::v9::v10::R)), []⟩ w:=by
 have HQ:=Aa hQ;clear hQ;rw[Ow R hR]
 conv=>arg 2;whnf
 have HC:=Aa hC;clear hC;go_wp2_with fail
 refine HC.out.mono ?_;rintro e w1 ⟨cs,rfl,hg,hb⟩;have HB:=Aa hb;have HG:=Aa hg;obtain⟨p0,n0,c0,t,a,p3,n3,c3,rfl⟩:=Po hg;clear hg hb;go_wp2_with fail
 exact HQ.out _ _ _ _ rfl (Ah w1 _) (HG.out.below ((Ag _ w1).alloc (Af _) _)) (HB.out.alloc HB.out.size _)
theorem gwrg6(ga gb:Nat)(csa csb:Array Value)(r:Option Iq)(w:World)(Q:Exit→Act→World→Prop)(v0 v1 v2 v3 v4 v5 v7 v9 v10:Value)(R:List Value)(hR:R.length=30)
 (hA:w.heap[ga]?=some (.cells csa 77 (0,0)))(hB:w.heap[gb]?=some (.cells csb 77 (0,0)))(iA:Gr w csa r)(iB:Gr w csb r)
 (hQ:∀(R':List Value)(w':World),R'.length=30→Below w.heap.size w w'→Q .normal ⟨(List.toArray (v0::v1::v2::v3::v4::v5:: .pointer (some ⟨ga,0,none⟩)::v7:: .pointer (some ⟨gb,0,none⟩)::v9:: .bool true::R')), []⟩ w'):
 Code.wp Tryz.prog (Jq 6) Q ⟨(List.toArray (v0::v1::v2::v3::v4::v5:: .pointer (some ⟨ga,0,none⟩)::v7:: .pointer (some ⟨gb,0,none⟩)::v9::v10::R)), []⟩ w:=by
 have HQ:=Aa hQ;clear hQ;rw[Ow R hR]
 conv=>arg 2;whnf
 have HC:=Aa (Jkh iA iB);obtain⟨p0,n0,c0,t,a,p3,n3,c3,rfl⟩:=Po iA;obtain⟨q0,m0,d0,t',a',q3,m3,d3,rfl⟩:=Po iB;obtain⟨x0,x1,x2,x3⟩:=Cp _ _ _ _ _ _ _ hA;obtain⟨y0,y1,y2,y3⟩:=Cp _ _ _ _ _ _ _ hB;clear hA hB iA iB;go_wp2_with fail
 refine HC.out.mono ?_;rintro e w1 ⟨rfl,hb⟩;have HB:=Aa hb;clear hb x0 x1 x2 x3 y0 y1 y2 y3;go_wp2_with fail
 exact HQ.out _ w1 rfl HB.out
theorem gwrg7(n:Int)(w:World)(Q:Exit→Act→World→Prop)(v0 v1 v2 v3 v4 v6 v8:Value)(R:List Value)(hR:R.length=30)
 (hn:0≤n∧n≤8)
 (hQ:∀(R':List Value)(w':World),R'.length=30→Below w.heap.size w w'→Q .normal ⟨(List.toArray (v0::v1::v2::v3:: .bool true:: .bool true::v6::Fk n::v8:: .int .i64 n:: .bool true::R')), []⟩ w'):
 Code.wp Tryz.prog (Jq 7) Q ⟨(List.toArray (v0::v1::v2::v3::v4:: .bool true::v6::Fk n::v8:: .int .i64 n:: .bool true::R)), []⟩ w:=by
 have HQ:=Aa hQ;clear hQ;rw[Ow R hR]
 conv=>arg 2;whnf
 have HC:=Aa (Jon n hn w);obtain⟨v,hv⟩:∃v,v=Fk n:=⟨_,rfl⟩
 rw[←hv]at HC HQ⊢;clear hv;go_wp2_with fail
 refine HC.out.mono ?_;rintro e w1 ⟨rfl,hb⟩;have HB:=Aa hb;clear hb;go_wp2_with fail
 exact HQ.out _ w1 rfl HB.out
theorem Jj5{a:Act}{w:World}{R:Ending→World→Prop}(h:a.defers= [])(h4:a.tmps.getD 4 undef= .bool true)(hR:R (.returned (.bool true)) w):bodyPost Tryz.prog Tryz.f6 R .ret a w:=
 bodyPost_ret (v:= .bool true) (by
  simp only[Array.getD_eq_getD_getElem?]at h4
  simp[results,go_sem,h4]) h hR
theorem Je5(p:Option Addr)(c:Nat)(l:List Az)(en:ByteArray)(w:World)(h:Bg 5 Cg w p l)(hlm:l.length≤maxLen):
 Calls Tryz.prog 6 #[.slice p l.length c,.string en] w fun e w'=>e= .returned (.bool true)∧Below w.heap.size w w':=by
 have HUP:=Jqe w;have HFEW:=fun W (hW:Below w.heap.size w W)=>Jpx p c l W (h.below Cg.keeps hW) hlm;have HB:=fun W (hW:Below w.heap.size w W) hl hs=>Sn p c l en W (h.below Cg.keeps hW) hl hs;have HR:=fun W (hW:Below w.heap.size w W) hl hs=>Ji4 p c l en W (h.below Cg.keeps hW) hl hs;go_enter Tryz.func6,Tryz.ntmps6;show Code.wp _ (Ji 0) _ _ _;refine Jp2 (by kernel_rfl) ?_;intro R0 h0;rw[Jqi];refine wp_seq (gwrg0 _ _ _ _ _ _ _ _ _ _ _ _ _ _ (h0) ?_);intro R1 h1;refine Ba ?_;rw[Jp8];refine wp_seq (gwrg1 _ _ _ _ _ _ _ _ _ _ _ _ _ _ (h1) (HUP) ?_);intro R2 w1 h2 hb1;refine Ba ?_;rw[Jpa];refine wp_seq (wp_seq (gwrg2 _ _ _ _ _ _ _ _ _ _ _ _ _ _ _ _ _ (h2) (HFEW w1 hb1) ?_));intro R3 r w2 h3 hr e3 hb2;refine Ba ?_;have hb02:=hb1.trans (hb2.mono hb1.size);rcases hr with rfl|⟨rfl,hl,hs⟩
 ·refine wp_cond_true ((Jk1 R3 _ _ _ _ _ _ _ _ _ _ _ 3).trans e3) ?_;refine wp_seq (gwrg3 _ _ _ _ _ _ _ _ _ _ _ _ _ (h3) ?_);intro R4 h4;refine Ba (wp_ret ?_);exact Jj5 (R:=fun e w'=>e= .returned (.bool true)∧Below w.heap.size w w') rfl rfl ⟨rfl,hb02⟩
 ·refine wp_cond_false ((Jk1 R3 _ _ _ _ _ _ _ _ _ _ _ 3).trans e3) (wp_skip (Ba ?_));rw[Jqk];refine wp_seq (gwrg4 _ _ _ _ _ _ _ _ _ _ _ _ _ _ _ _ _ (h3) (HB w2 hb02 hl hs) ?_);intro R4 ga csa w3 h4 hga iga hb3;refine Ba ?_;have hb03:=hb02.trans (hb3.mono hb02.size);rw[Jpy];refine wp_seq (gwrg5 _ _ _ _ _ _ _ _ _ _ _ _ _ _ _ _ _ (h4) (HR w3 hb03 hl hs) ?_);intro R5 gb csb w4 h5 hgb igb hb4;refine Ba ?_;have hb04:=hb03.trans (hb4.mono hb03.size);rw[Jp5];refine wp_seq (gwrg6 _ _ _ _ _ _ _ _ _ _ _ _ _ _ _ _ _ (h5) (Cr hb4 hga) (hgb) (iga.below hb4) (igb) ?_);intro R6 w5 h6 hb5;refine Ba ?_;have hb05:=hb04.trans (hb5.mono hb04.size);rw[Jp7];refine wp_seq (gwrg7 _ _ _ _ _ _ _ _ _ _ _ (h6) (Jh3) ?_);intro R7 w6 h7 hb6;exact Ba (wp_ret (Jj5 rfl rfl ⟨rfl,hb05.trans (hb6.mono hb05.size)⟩))
end Go.Proofs.YteopgmieindojaaGreat
namespace Go.Proofs.YteopgmieindojaaGreat
open Go.ChangeShapes Go.WideShapes Go.RowKit Go.Deep
def Jlk(w:World)(v:Value)(l:List Az):Prop:=IsL 5 Cg w v l
section
variable {H:Type} {enc:TypeId × Value→H} {w:World} {base:Nat} {spare:Nat→Bool} {held:Bool}
theorem Jki:Ol enc Tryz.prog w base spare held 5 27 Cg:=fun n b o cs x hl hc h=>by
 obtain⟨v0,v1,v2,v4,ob,rfl,hp⟩:=Jis h;exact⟨ob,v0,v1,v2,v4,hc 0 (by omega),hc 1 (by omega),hc 2 (by omega),hc 3 (by omega),hc 4 (by omega),hp⟩
theorem Jlt{fuel:Nat}{v:Value}{x:DataW H × List MemPlace}(h:DataW.trod enc Tryz.prog w base spare held fuel 44 [v]=some x):∃l:List Az,Jlk w v l:=
 Om Tryz.underlying44 (by kernel_rfl) (by omega) Jki h
end
end Go.Proofs.YteopgmieindojaaGreat
