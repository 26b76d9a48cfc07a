/- Parts of a proof. -/
import Derived.Test.YteopgmieindojaaGreatGX43
import Derived.StillTailTactics
set_option maxRecDepth 1000000
set_option maxHeartbeats 8000000
namespace Go.Proofs.YteopgmieindojaaGreat
open Go.RowKit
theorem Jbu{w w1:World}(hb:Below w.drew.heap.size w.drew w1):Below w.heap.size w w1:=(Ag _ w).drew.trans hb
theorem Jk5{l:List Az}{mb:Bool}{w:World}{n:Int}{u0 u1:Value}(h:Uy l mb w n u0 u1):(∃q m c,u0= .slice q m c)∧(∃q m c,u1= .slice q m c):=by
 rcases h with⟨_,_,rfl,rfl⟩|⟨_,⟨_,_,rfl,rfl⟩|⟨_,_,_,⟨_,_,rfl,rfl⟩|⟨_,_,⟨p,c,rfl,_⟩,⟨p',c',rfl,_⟩⟩⟩⟩
 all_goals exact⟨⟨_,_,_,rfl⟩,⟨_,_,_,rfl⟩⟩
theorem bdrg1{p:Option Addr}{ln c:Nat}{l:List Az}{mb:Bool}{w:World}{Q:Exit→Act→World→Prop}{v1 v2 v3 v4 v5 v6 v7 v8 v9 v10 v11 v12 v13 v14 v15 v16 v17 v18 v19 v20 v21 v22 v23 v24:Value}{R:List Value}(hR:R.length=198)
 (hC:Calls Tryz.prog 20 #[.slice p ln c] w (Jcf l mb w))
 (hQ:∀(R':List Value)(n:Int)(u0 u1:Value)(w1:World),R'.length=198→Uy l mb w1 n u0 u1→Below w.heap.size w w1→Q .normal ⟨(List.toArray (.slice p ln c::v1::v2::v3::v4::v5:: .pointer (some ⟨w1.heap.size,0,none⟩):: .int .i64 n::v8::v9::v10::v11::v12::v13::v14::v15::v16::v17::v18::v19::v20::v21::v22::v23::v24::R')), []⟩ (w1.alloc (.cells #[u0,u1] 54))):
 Code.wp Tryz.prog (Br 1) Q ⟨(List.toArray (.slice p ln c::v1::v2::v3::v4::v5::v6::v7::v8::v9::v10::v11::v12::v13::v14::v15::v16::v17::v18::v19::v20::v21::v22::v23::v24::R)), []⟩ w:=by
 have HQ:=Aa hQ;clear hQ;rw[Cu R hR]
 conv=>arg 2;whnf
 have HC:=Aa hC;clear hC;go_wp2_with fail
 refine HC.out.mono ?_;rintro e w1 ⟨n,u0,u1,rfl,ht,hb⟩;have HT:=Aa ht;have HB:=Aa hb;clear ht hb;obtain⟨⟨q0,n0,c0,rfl⟩,⟨q1,n1,c1,rfl⟩⟩:=Jk5 HT.out;go_wp2_with fail
 exact HQ.out _ n _ _ w1 rfl HT.out HB.out
theorem bdrg4{p:Option Addr}{ln c g6 n0 c0 n1 c1:Nat}{q0 q1:Option Addr}{ys:List Ce}{w:World}{Q:Exit→Act→World→Prop}{v1 v2 v3 v4 v5 v7 v8 v9 v10 v11 v12 v13 v14 v15 v16 v17 v18 v19 v20 v21 v22 v23 v24:Value}{R:List Value}(hR:R.length=198)
 (hT:w.heap[g6]?=some (.cells #[.slice q0 n0 c0,.slice q1 n1 c1] 54 (0,0)))(hC:Calls Tryz.prog 73 #[.slice p ln c,.agg #[.slice q0 n0 c0,.slice q1 n1 c1]] w fun e w'=>∃v,e= .returned v∧Mw w.heap.size w' v ys∧Below w.heap.size w w')
 (hQ:∀(R':List Value)(pn:Option Addr)(cn:Nat)(w':World),R'.length=198→Mw w.heap.size w' (.slice pn ys.length cn) ys→Below w.heap.size w w'→Q .normal ⟨(List.toArray (.slice p ln c::v1::v2::v3::v4::v5:: .pointer (some ⟨g6,0,none⟩)::v7:: .slice pn ys.length cn::v9::v10::v11::v12::v13::v14::v15::v16::v17::v18::v19::v20::v21::v22::v23::v24::R')), []⟩ w'):
 Code.wp Tryz.prog (Br 4) Q ⟨(List.toArray (.slice p ln c::v1::v2::v3::v4::v5:: .pointer (some ⟨g6,0,none⟩)::v7::v8::v9::v10::v11::v12::v13::v14::v15::v16::v17::v18::v19::v20::v21::v22::v23::v24::R)), []⟩ w:=by
 have HQ:=Aa hQ;clear hQ;rw[Cu R hR]
 conv=>arg 2;whnf
 have HC:=Aa hC;have z0:=Bi hT 0 _ rfl;have z1:=Bi hT 1 _ rfl;clear hC hT;go_wp2_with fail
 refine HC.out.mono ?_;rintro e w1 ⟨v,rfl,hn,hb⟩;obtain⟨ns,ho,h1,h2⟩:=id hn;obtain⟨pn,cn,rfl,_⟩:=Bl ho;have HN:=Aa hn;have HB:=Aa hb;clear hn hb ho h1 h2 z0 z1;go_wp2_with fail
 exact HQ.out _ pn cn w1 rfl HN.out HB.out
theorem bdrg9{i n cn bn on a kk bo oo ln c sn cs bs os cq cr:Nat}{qd qr:Option Addr}{s:Ca}{w:World}{Q:Exit→Act→World→Prop}{v1 v2 v3 v4 v5 v6 v7 v9 v11 v12 v13 v14 v15 v16 v17 v18 v19 v20 v21 v22 v23 v24:Value}{R:List Value}(hR:R.length=198)
 (hi:(i:Int) < (n:Int))(n0:w.cell? ⟨bn,on+i*14,none⟩=some (.int .i64 (a:Int)))(n1:w.cell? ⟨bn,on+i*14+1,none⟩=some (.int .i64 ((kk:Int)+1)))(ha:(a:Int) < (ln:Int))(o0:w.cell? ⟨bo,oo+a*5,none⟩=some (.slice (some ⟨bs,os,none⟩) sn cs))(hk:(kk:Int) < (sn:Int))(hkm:kk≤maxLen)(S0:w.cell? ⟨bs,os+kk*9,none⟩=some (.string s.name))(S1:w.cell? ⟨bs,os+kk*9+1,none⟩=some (.int .i64 s.type))(S2:w.cell? ⟨bs,os+kk*9+2,none⟩=some (.int .i64 s.flags))(S3:w.cell? ⟨bs,os+kk*9+3,none⟩=some (.int .i64 s.align))(S4:w.cell? ⟨bs,os+kk*9+4,none⟩=some (.int .i64 s.ent))(S5:w.cell? ⟨bs,os+kk*9+5,none⟩=some (.int .i64 s.link))(S6:w.cell? ⟨bs,os+kk*9+6,none⟩=some (.int .i64 s.size))(S7:w.cell? ⟨bs,os+kk*9+7,none⟩=some (.slice qd s.data.length cq))(S8:w.cell? ⟨bs,os+kk*9+8,none⟩=some (.slice qr s.rels.length cr))(hfb: -9223372036854775808≤s.flags∧s.flags≤9223372036854775807)
 (hQ:∀(R':List Value)(w':World),R'.length=198→Below w.heap.size w w'→Q .normal ⟨(List.toArray (.slice (some ⟨bo,oo,none⟩) ln c::v1::v2::v3::v4::v5::v6::v7:: .slice (some ⟨bn,on,none⟩) n cn::v9:: .int .i64 (i:Int):: .bool (hasF s.flags 16)::v12::v13::v14::v15::v16::v17::v18::v19::v20::v21::v22::v23::v24::R')), []⟩ w'):
 Code.wp Tryz.prog (Br 9) Q ⟨(List.toArray (.slice (some ⟨bo,oo,none⟩) ln c::v1::v2::v3::v4::v5::v6::v7:: .slice (some ⟨bn,on,none⟩) n cn::v9:: .int .i64 (i:Int)::v11::v12::v13::v14::v15::v16::v17::v18::v19::v20::v21::v22::v23::v24::R)), []⟩ w:=by
 have HQ:=Aa hQ;clear hQ;rw[Cu R hR];refine Jo ?_
 conv=>arg 2;whnf
 have i0:(0:Int)≤(i:Int):=by omega
 have ja0:(0:Int)≤(a:Int):=by omega
 have jk0:(0:Int)≤(kk:Int):=by omega
 have kwk:IntKind.i64.wrap ((kk:Int)+1 - 1)=(kk:Int):=by rw[show(kk:Int)+1 - 1=(kk:Int) by omega];exact Al _ (by unfold maxLen at hkm;omega)
 have kwk2:IntKind.i64.wrap (kk:Int)=(kk:Int):=Al _ (by unfold maxLen at hkm;omega);clear hkm;have HHS:=Aa fun W=>(Kc s.name s.type s.flags s.align s.ent s.link s.size (.slice qd s.data.length cq) (.slice qr s.rels.length cr) 16 W (by omega) (by omega) hfb)
 clear hfb;go_still_tail 17,(by kernel_rfl)
 go_wp2_with fail
 refine(HHS.out _).mono ?_;rintro e w1 ⟨rfl,hb⟩;have hb2:Below w.heap.size w w1:=Jbu hb;have HB:=Aa hb2;clear hb hb2;go_wp2_with fail
 exact HQ.out _ w1 rfl HB.out
theorem Jrx{i n cn bn on a kk bo oo ln c sn cs bs os cr:Nat}{qr:Option Addr}{s:Ca}{w:World}{Q:Exit→Act→World→Prop}{v1 v2 v3 v4 v5 v6 v7 v9 v11 v12 v13 v14 v15 v16 v17 v18 v19 v20 v21 v22 v23 v24:Value}{R:List Value}(hR:R.length=198)
 (hi:(i:Int) < (n:Int))(n0:w.cell? ⟨bn,on+i*14,none⟩=some (.int .i64 (a:Int)))(n1:w.cell? ⟨bn,on+i*14+1,none⟩=some (.int .i64 ((kk:Int)+1)))(ha:(a:Int) < (ln:Int))(o0:w.cell? ⟨bo,oo+a*5,none⟩=some (.slice (some ⟨bs,os,none⟩) sn cs))(hk:(kk:Int) < (sn:Int))(hkm:kk≤maxLen)(S8:w.cell? ⟨bs,os+kk*9+8,none⟩=some (.slice qr s.rels.length cr))
 (hQ:∀(R':List Value)(nq:Nat),R'.length=198→Q .normal ⟨(List.toArray (.slice (some ⟨bo,oo,none⟩) ln c::v1::v2::v3::v4::v5::v6::v7:: .slice (some ⟨bn,on,none⟩) n cn::v9:: .int .i64 (i:Int)::v11:: .slice qr s.rels.length cr::v13::v14::v15::v16::v17::v18::v19::v20::v21::v22::v23::v24::R')), []⟩ (w.drewN nq)):
 Code.wp Tryz.prog (Br 11) Q ⟨(List.toArray (.slice (some ⟨bo,oo,none⟩) ln c::v1::v2::v3::v4::v5::v6::v7:: .slice (some ⟨bn,on,none⟩) n cn::v9:: .int .i64 (i:Int)::v11::v12::v13::v14::v15::v16::v17::v18::v19::v20::v21::v22::v23::v24::R)), []⟩ w:=by
 have HQ:=Aa hQ;clear hQ;rw[Cu R hR];refine Jo ?_
 conv=>arg 2;whnf
 have i0:(0:Int)≤(i:Int):=by omega
 have ja0:(0:Int)≤(a:Int):=by omega
 have jk0:(0:Int)≤(kk:Int):=by omega
 have kwk:IntKind.i64.wrap ((kk:Int)+1 - 1)=(kk:Int):=by rw[show(kk:Int)+1 - 1=(kk:Int) by omega];exact Al _ (by unfold maxLen at hkm;omega)
 have kwk2:IntKind.i64.wrap (kk:Int)=(kk:Int):=Al _ (by unfold maxLen at hkm;omega);clear hkm;go_quiet (fail);exact HQ.out _ _ rfl
theorem Jra{p:Option Addr}{ln c g6 n0 c0_ n1 c1_ bn on n cn i a br orr rn cr j:Nat}{q0 q1:Option Addr}{sy:Int}{P:Cq}{code:Int}{w:World}{Q:Exit→Act→World→Prop}{v1 v2 v3 v4 v5 v7 v9 v11 v14 v15 v16 v17 v18 v19 v20 v21 v22 v23 v24:Value}{R:List Value}(hR:R.length=198)
 (hT:w.heap[g6]?=some (.cells #[.slice q0 n0 c0_,.slice q1 n1 c1_] 54 (0,0)))(hi:(i:Int) < (n:Int))(hj:(j:Int) < (rn:Int))(a0:w.cell? ⟨bn,on+i*14,none⟩=some (.int .i64 (a:Int)))(r2:w.cell? ⟨br,orr+j*4+2,none⟩=some (.int .i64 sy))
 (hC:∀W,Below w.heap.size w W→Calls Tryz.prog 26 #[.slice p ln c,.agg #[.slice q0 n0 c0_,.slice q1 n1 c1_],.int .i64 (a:Int),.int .i64 sy] W (Kx (P,code) W))
 (hQ:∀(R':List Value)(g14:Nat)(w':World),R'.length=198→w'.heap[g14]?=some (.cells (Jy P) 70 (0,0))→Below w.heap.size w w'→Q .normal ⟨(List.toArray (.slice p ln c::v1::v2::v3::v4::v5:: .pointer (some ⟨g6,0,none⟩)::v7:: .slice (some ⟨bn,on,none⟩) n cn::v9:: .int .i64 (i:Int)::v11:: .slice (some ⟨br,orr,none⟩) rn cr:: .int .i64 (j:Int):: .pointer (some ⟨g14,0,none⟩):: .int .i64 code::v16::v17::v18::v19::v20::v21::v22::v23::v24::R')), []⟩ w'):
 Code.wp Tryz.prog (Br 15) Q ⟨(List.toArray (.slice p ln c::v1::v2::v3::v4::v5:: .pointer (some ⟨g6,0,none⟩)::v7:: .slice (some ⟨bn,on,none⟩) n cn::v9:: .int .i64 (i:Int)::v11:: .slice (some ⟨br,orr,none⟩) rn cr:: .int .i64 (j:Int)::v14::v15::v16::v17::v18::v19::v20::v21::v22::v23::v24::R)), []⟩ w:=by
 have HQ:=Aa hQ;clear hQ;rw[Cu R hR];refine Jo ?_
 conv=>arg 2;whnf
 have HC:=Aa hC;have c0:w.cell? ⟨g6,0,none⟩=some (.slice q0 n0 c0_):=Bi hT 0 _ rfl;have c1:w.cell? ⟨g6,1,none⟩=some (.slice q1 n1 c1_):=Bi hT 1 _ rfl;have c2:=a0;have c3:=r2;have i0:(0:Int)≤(i:Int):=by omega
 have j0:(0:Int)≤(j:Int):=by omega
 clear hC hT a0 r2;have q0d:=Ax ((Ag _ w).drew) c0;have q1d:=Ax ((Ag _ w).drew) c1;have q2d:=Ax ((Ag _ w).drew) c2;have q3d:=Ax ((Ag _ w).drew) c3;have q0z:=Ax (((Ag _ w).alloc (Af _) (.cells zPl 70)).drew) c0;have q1z:=Ax (((Ag _ w).alloc (Af _) (.cells zPl 70)).drew) c1;have q2z:=Ax (((Ag _ w).alloc (Af _) (.cells zPl 70)).drew) c2;have q3z:=Ax (((Ag _ w).alloc (Af _) (.cells zPl 70)).drew) c3;have hs0:w.heap.size≤w.heap.size:=Af _;go_region_held3 (fun W=>W.cell? ⟨g6,0,none⟩=some (.slice q0 n0 c0_)∧W.cell? ⟨g6,1,none⟩=some (.slice q1 n1 c1_)∧W.cell? ⟨bn,on+i*14,none⟩=some (.int .i64 (a:Int))∧W.cell? ⟨br,orr+j*4+2,none⟩=some (.int .i64 sy)) (first|with_reducible exact⟨c0,c1,c2,c3⟩|with_reducible exact⟨q0d,q1d,q2d,q3d⟩|with_reducible exact⟨q0z,q1z,q2z,q3z⟩|with_reducible exact⟨q0w,q1w,q2w,q3w⟩|with_reducible exact⟨q0s,q1s,q2s,q3s⟩|with_reducible exact⟨q0u,q1u,q2u,q3u⟩|fail)
  ((first
    |(go_at_call 26
      first
       |(refine(HC.out _ ((Ag _ w).drew)).mono ?_
         rintro e w3 ⟨rfl,hb3⟩;have hb4:Below w.heap.size w w3:=Kk (w:=w) hb3 rfl;have q0w:=Ax hb4 c0;have q1w:=Ax hb4 c1;have q2w:=Ax hb4 c2;have q3w:=Ax hb4 c3;have q0s:=Ax ((Ag _ w3).alloc (Af _) (.cells zPl 70)) q0w;have q1s:=Ax ((Ag _ w3).alloc (Af _) (.cells zPl 70)) q1w;have q2s:=Ax ((Ag _ w3).alloc (Af _) (.cells zPl 70)) q2w;have q3s:=Ax ((Ag _ w3).alloc (Af _) (.cells zPl 70)) q3w;have q0u:=Ax ((Ag _ w3).alloc (Af _) (.cells (Jy P) 70)) q0w;have q1u:=Ax ((Ag _ w3).alloc (Af _) (.cells (Jy P) 70)) q1w;have q2u:=Ax ((Ag _ w3).alloc (Af _) (.cells (Jy P) 70)) q2w
         have q3u:=Ax ((Ag _ w3).alloc (Af _) (.cells (Jy P) 70)) q3w)
       |(refine(HC.out _ (((Ag _ w).alloc (Af _) (.cells zPl 70)).drew)).mono ?_
         rintro e w3 ⟨rfl,hb3⟩;obtain⟨hz,hb5⟩:=Ws (w:=w) hb3;obtain⟨⟨y0,y1,y2⟩,z0,z1,z2⟩:=Bj _ _ _ _ _ _ hz;have hx:=Cy (.int .i64 P.obj) (.int .i64 P.sec) (.int .i64 P.at_) (Af w.heap.size) hz;have HX:=Aa hx;have q0w:=Ax hb5 c0;have q1w:=Ax hb5 c1;have q2w:=Ax hb5 c2;have q3w:=Ax hb5 c3;have hxb:Below w.heap.size w3 _:=hx.2.below hb5.size;have q0s:=(hxb.cell (Ao w _ c0)).trans q0w;have q1s:=(hxb.cell (Ao w _ c1)).trans q1w;have q2s:=(hxb.cell (Ao w _ c2)).trans q2w;have q3s:=(hxb.cell (Ao w _ c3)).trans q3w;have HXB:=Aa (hb5.trans hxb)
         clear hx hz hb3 hxb)
       |fail)
    |fail))
 all_goals go_wp2_with fail
 all_goals first
  |exact HQ.out _ _ _ rfl HX.out.1 HXB.out
  |exact HQ.out _ _ _ rfl (Ah _ _) (hb4.alloc hb4.size _)
  |fail
theorem Jr0{br orr rn cr j g14:Nat}{r:Ea}{P:Cq}{w:World}{Q:Exit→Act→World→Prop}{v0 v1 v2 v3 v4 v5 v6 v7 v8 v9 v10 v11 v15 v16 v17 v18 v19 v20 v21 v22 v23 v24:Value}{R:List Value}(hR:R.length=198)
 (hj:(j:Int) < (rn:Int))(r0:w.cell? ⟨br,orr+j*4,none⟩=some (.int .i64 r.off))(r1:w.cell? ⟨br,orr+j*4+1,none⟩=some (.int .i64 r.type))(r3:w.cell? ⟨br,orr+j*4+3,none⟩=some (.int .i64 r.add))(hP:w.heap[g14]?=some (.cells (Jy P) 70 (0,0)))
 (hQ:∀(R':List Value)(g16:Nat)(w':World),R'.length=198→w'.heap[g16]?=some (.cells #[.int .i64 r.off,.int .i64 r.type,.int .i64 r.add,.int .i64 (-1),.int .i64 P.at_] 92 (0,0))→w.heap.size≤g16→Below w.heap.size w w'→Q .normal ⟨(List.toArray (v0::v1::v2::v3::v4::v5::v6::v7::v8::v9::v10::v11:: .slice (some ⟨br,orr,none⟩) rn cr:: .int .i64 (j:Int):: .pointer (some ⟨g14,0,none⟩)::v15:: .pointer (some ⟨g16,0,none⟩)::v17::v18::v19::v20::v21::v22::v23::v24::R')), []⟩ w'):
 Code.wp Tryz.prog (Br 18) Q ⟨(List.toArray (v0::v1::v2::v3::v4::v5::v6::v7::v8::v9::v10::v11:: .slice (some ⟨br,orr,none⟩) rn cr:: .int .i64 (j:Int):: .pointer (some ⟨g14,0,none⟩)::v15::v16::v17::v18::v19::v20::v21::v22::v23::v24::R)), []⟩ w:=by
 have HQ:=Aa hQ;clear hQ;rw[Cu R hR];refine Jo ?_
 conv=>arg 2;whnf
 have z2:w.cell? ⟨g14,2,none⟩=some (.int .i64 P.at_):=Bi hP 2 _ rfl;have j0:(0:Int)≤(j:Int):=by omega
 clear hP;go_region_held (fun W=>W.cell? ⟨br,orr+j*4,none⟩=some (.int .i64 r.off)∧W.cell? ⟨br,orr+j*4+1,none⟩=some (.int .i64 r.type)∧W.cell? ⟨br,orr+j*4+3,none⟩=some (.int .i64 r.add)∧W.cell? ⟨g14,2,none⟩=some (.int .i64 P.at_)) (first|exact⟨r0,r1,r3,z2⟩|go_keep|fail) (fail)
 all_goals exact HQ.out _ _ _ rfl (Ah w _) (Af _) ((Ag _ w).alloc (Af _) _).drew
theorem Jsd{g14 n cn:Nat}{pn:Option Addr}{P:Cq}{t a:Int}{w:World}{Q:Exit→Act→World→Prop}{v0 v1 v2 v3 v4 v5 v6 v7 v9 v10 v11 v12 v13 v15 v16 v17 v18 v19 v20 v21 v22 v23 v24:Value}{R:List Value}(hR:R.length=198)
 (hP:w.heap[g14]?=some (.cells (Jy P) 70 (0,0)))(hC:Calls Tryz.prog 74 #[.slice pn n cn,.agg #[.int .i64 P.obj,.int .i64 P.sec,.int .i64 P.at_]] w fun e w'=>e= .returned (.tuple #[.int .i64 t,.int .i64 a])∧Below w.heap.size w w')
 (hQ:∀(R':List Value)(w':World),R'.length=198→Below w.heap.size w w'→Q .normal ⟨(List.toArray (v0::v1::v2::v3::v4::v5::v6::v7:: .slice pn n cn::v9::v10::v11::v12::v13:: .pointer (some ⟨g14,0,none⟩)::v15::v16:: .int .i64 t:: .int .i64 a::v19::v20::v21::v22::v23::v24::R')), []⟩ w'):
 Code.wp Tryz.prog (Br 20) Q ⟨(List.toArray (v0::v1::v2::v3::v4::v5::v6::v7:: .slice pn n cn::v9::v10::v11::v12::v13:: .pointer (some ⟨g14,0,none⟩)::v15::v16::v17::v18::v19::v20::v21::v22::v23::v24::R)), []⟩ w:=by
 have HQ:=Aa hQ;clear hQ;rw[Cu R hR]
 conv=>arg 2;whnf
 have HC:=Aa hC;have z0:=Bi hP 0 _ rfl;have z1:=Bi hP 1 _ rfl;have z2:=Bi hP 2 _ rfl;clear hC hP;go_wp2_with fail
 refine HC.out.mono ?_;rintro e w1 ⟨rfl,hb⟩;have HB:=Aa hb;clear hb z0 z1 z2;go_wp2_with fail
 exact HQ.out _ w1 rfl HB.out
theorem Jsk{g21 n cn:Nat}{pn:Option Addr}{P:Cq}{t a:Int}{w:World}{Q:Exit→Act→World→Prop}{v0 v1 v2 v3 v4 v5 v6 v7 v9 v10 v11 v12 v13 v14 v15 v16 v17 v18 v19 v20 v22 v23 v24:Value}{R:List Value}(hR:R.length=198)
 (hP:w.heap[g21]?=some (.cells (Jy P) 70 (0,0)))(hC:Calls Tryz.prog 74 #[.slice pn n cn,.agg #[.int .i64 P.obj,.int .i64 P.sec,.int .i64 P.at_]] w fun e w'=>e= .returned (.tuple #[.int .i64 t,.int .i64 a])∧Below w.heap.size w w')
 (hQ:∀(R':List Value)(w':World),R'.length=198→Below w.heap.size w w'→Q .normal ⟨(List.toArray (v0::v1::v2::v3::v4::v5::v6::v7:: .slice pn n cn::v9::v10::v11::v12::v13::v14::v15::v16::v17::v18::v19::v20:: .pointer (some ⟨g21,0,none⟩)::v22:: .int .i64 t:: .int .i64 a::R')), []⟩ w'):
 Code.wp Tryz.prog (Br 31) Q ⟨(List.toArray (v0::v1::v2::v3::v4::v5::v6::v7:: .slice pn n cn::v9::v10::v11::v12::v13::v14::v15::v16::v17::v18::v19::v20:: .pointer (some ⟨g21,0,none⟩)::v22::v23::v24::R)), []⟩ w:=by
 have HQ:=Aa hQ;clear hQ;rw[Cu R hR]
 conv=>arg 2;whnf
 have HC:=Aa hC;have z0:=Bi hP 0 _ rfl;have z1:=Bi hP 1 _ rfl;have z2:=Bi hP 2 _ rfl;clear hC hP;go_wp2_with fail
 refine HC.out.mono ?_;rintro e w1 ⟨rfl,hb⟩;have HB:=Aa hb;clear hb z0 z1 z2;go_wp2_with fail
 exact HQ.out _ w1 rfl HB.out
theorem Jso{p:Option Addr}{ln c g6 n0 c0_ n1 c1_ bf of_ i:Nat}{q0:Option Addr}{ob sy:Int}{P:Cq}{code:Int}{w:World}{Q:Exit→Act→World→Prop}{v1 v2 v3 v4 v5 v7 v8 v9 v10 v11 v12 v13 v14 v15 v16 v17 v18 v19 v21 v22 v23 v24:Value}{R:List Value}(hR:R.length=198)
 (hT:w.heap[g6]?=some (.cells #[.slice q0 n0 c0_,.slice (some ⟨bf,of_,none⟩) n1 c1_] 54 (0,0)))(hi:(i:Int) < (n1:Int))(d1:w.cell? ⟨bf,of_+i*3+1,none⟩=some (.int .i64 ob))(d2:w.cell? ⟨bf,of_+i*3+2,none⟩=some (.int .i64 sy))
 (hC:∀W,Below w.heap.size w W→Calls Tryz.prog 26 #[.slice p ln c,.agg #[.slice q0 n0 c0_,.slice (some ⟨bf,of_,none⟩) n1 c1_],.int .i64 ob,.int .i64 sy] W (Kx (P,code) W))
 (hQ:∀(R':List Value)(g21:Nat)(w':World),R'.length=198→w'.heap[g21]?=some (.cells (Jy P) 70 (0,0))→Below w.heap.size w w'→Q .normal ⟨(List.toArray (.slice p ln c::v1::v2::v3::v4::v5:: .pointer (some ⟨g6,0,none⟩)::v7::v8::v9::v10::v11::v12::v13::v14::v15::v16::v17::v18::v19:: .int .i64 (i:Int):: .pointer (some ⟨g21,0,none⟩):: .int .i64 code::v23::v24::R')), []⟩ w'):
 Code.wp Tryz.prog (Br 30) Q ⟨(List.toArray (.slice p ln c::v1::v2::v3::v4::v5:: .pointer (some ⟨g6,0,none⟩)::v7::v8::v9::v10::v11::v12::v13::v14::v15::v16::v17::v18::v19:: .int .i64 (i:Int)::v21::v22::v23::v24::R)), []⟩ w:=by
 have HQ:=Aa hQ;clear hQ;rw[Cu R hR];refine Jo ?_
 conv=>arg 2;whnf
 have HC:=Aa hC;have c0:w.cell? ⟨g6,0,none⟩=some (.slice q0 n0 c0_):=Bi hT 0 _ rfl;have c1:w.cell? ⟨g6,1,none⟩=some (.slice (some ⟨bf,of_,none⟩) n1 c1_):=Bi hT 1 _ rfl;have c2:=d1;have c3:=d2;have i0:(0:Int)≤(i:Int):=by omega
 clear hC hT d1 d2;have q0d:=Ax ((Ag _ w).drew) c0;have q1d:=Ax ((Ag _ w).drew) c1;have q2d:=Ax ((Ag _ w).drew) c2;have q3d:=Ax ((Ag _ w).drew) c3;have q0z:=Ax (((Ag _ w).alloc (Af _) (.cells zPl 70)).drew) c0;have q1z:=Ax (((Ag _ w).alloc (Af _) (.cells zPl 70)).drew) c1;have q2z:=Ax (((Ag _ w).alloc (Af _) (.cells zPl 70)).drew) c2;have q3z:=Ax (((Ag _ w).alloc (Af _) (.cells zPl 70)).drew) c3;have hs0:w.heap.size≤w.heap.size:=Af _;go_region_held3 (fun W=>W.cell? ⟨g6,0,none⟩=some (.slice q0 n0 c0_)∧W.cell? ⟨g6,1,none⟩=some (.slice (some ⟨bf,of_,none⟩) n1 c1_)∧W.cell? ⟨bf,of_+i*3+1,none⟩=some (.int .i64 ob)∧W.cell? ⟨bf,of_+i*3+2,none⟩=some (.int .i64 sy)) (first|with_reducible exact⟨c0,c1,c2,c3⟩|with_reducible exact⟨q0d,q1d,q2d,q3d⟩|with_reducible exact⟨q0z,q1z,q2z,q3z⟩|with_reducible exact⟨q0w,q1w,q2w,q3w⟩|with_reducible exact⟨q0s,q1s,q2s,q3s⟩|with_reducible exact⟨q0u,q1u,q2u,q3u⟩|fail)
  ((first
    |(go_at_call 26
      first
       |(refine(HC.out _ ((Ag _ w).drew)).mono ?_
         rintro e w3 ⟨rfl,hb3⟩;have hb4:Below w.heap.size w w3:=Kk (w:=w) hb3 rfl;have q0w:=Ax hb4 c0;have q1w:=Ax hb4 c1;have q2w:=Ax hb4 c2;have q3w:=Ax hb4 c3;have q0s:=Ax ((Ag _ w3).alloc (Af _) (.cells zPl 70)) q0w;have q1s:=Ax ((Ag _ w3).alloc (Af _) (.cells zPl 70)) q1w;have q2s:=Ax ((Ag _ w3).alloc (Af _) (.cells zPl 70)) q2w;have q3s:=Ax ((Ag _ w3).alloc (Af _) (.cells zPl 70)) q3w;have q0u:=Ax ((Ag _ w3).alloc (Af _) (.cells (Jy P) 70)) q0w;have q1u:=Ax ((Ag _ w3).alloc (Af _) (.cells (Jy P) 70)) q1w;have q2u:=Ax ((Ag _ w3).alloc (Af _) (.cells (Jy P) 70)) q2w
         have q3u:=Ax ((Ag _ w3).alloc (Af _) (.cells (Jy P) 70)) q3w)
       |(refine(HC.out _ (((Ag _ w).alloc (Af _) (.cells zPl 70)).drew)).mono ?_
         rintro e w3 ⟨rfl,hb3⟩;obtain⟨hz,hb5⟩:=Ws (w:=w) hb3;obtain⟨⟨y0,y1,y2⟩,z0,z1,z2⟩:=Bj _ _ _ _ _ _ hz;have hx:=Cy (.int .i64 P.obj) (.int .i64 P.sec) (.int .i64 P.at_) (Af w.heap.size) hz;have HX:=Aa hx;have q0w:=Ax hb5 c0;have q1w:=Ax hb5 c1;have q2w:=Ax hb5 c2;have q3w:=Ax hb5 c3;have hxb:Below w.heap.size w3 _:=hx.2.below hb5.size;have q0s:=(hxb.cell (Ao w _ c0)).trans q0w;have q1s:=(hxb.cell (Ao w _ c1)).trans q1w;have q2s:=(hxb.cell (Ao w _ c2)).trans q2w;have q3s:=(hxb.cell (Ao w _ c3)).trans q3w;have HXB:=Aa (hb5.trans hxb)
         clear hx hz hb3 hxb)
       |fail)
    |fail))
 all_goals go_wp2_with fail
 all_goals first
  |exact HQ.out _ _ _ rfl HX.out.1 HXB.out
  |exact HQ.out _ _ _ rfl (Ah _ _) (hb4.alloc hb4.size _)
  |fail
end Go.Proofs.YteopgmieindojaaGreat
