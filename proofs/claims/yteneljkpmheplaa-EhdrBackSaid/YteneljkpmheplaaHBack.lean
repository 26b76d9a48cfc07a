/-
  The walk of EhdrBack.
-/
import Derived.Test.YteneljkpmheplaaHTells
import Derived.Test.YteneljkpmheplaaAppend
import Derived.Laws.BitsAllLaws
namespace Go.Proofs.Yteneljkpmheplaa
open Go.RowKit

theorem hgot_cases (l : List UInt8) : (begunB l = none ∧ hgot l = .returned (.tuple #[hd3 0 0 0, .bool false])) ∨
    ∃ a m n : Nat, mayH a m n ∧ hdrB a m n = l.take 64 ∧ hgot l = .returned (.tuple #[hd3 a m n, .bool true]) := by
  cases hb : begunB l with
  | none => exact .inl ⟨rfl, by simp only [hgot, hb]⟩
  | some y =>
    obtain ⟨a, m, n⟩ := y
    obtain ⟨h1, h2⟩ := (begunB_iff l a m n).1 hb
    exact .inr ⟨a, m, n, h1, h2, by simp only [hgot, hb]⟩
theorem hgot_put {a m n : Nat} (r : List UInt8) (h : mayH a m n) : hgot (hdrB a m n ++ r) = .returned (.tuple #[hd3 a m n, .bool true]) := by
  have hb := (begunB_iff (hdrB a m n ++ r) a m n).2 ⟨h, by rw [List.take_append_of_le_length (Nat.le_of_eq (hdrB_length a m n).symm), List.take_of_length_le (Nat.le_of_eq (hdrB_length a m n))]⟩
  simp only [hgot, hb]
/-- With a byte of it turned it isn't that any more. -/
theorem hgot_turned {a m n j : Nat} {x y : UInt8} (h : (hdrB a m n)[j]? = some x) (hy : y ≠ x) : ∃ (a' m' n' : Int) (ok : Bool), hgot ((hdrB a m n).set j y) = .returned (.tuple #[hd3 a' m' n', .bool ok]) ∧ (ok = false ∨ ¬ (a' = a ∧ m' = m ∧ n' = n)) := by
  rcases hgot_cases ((hdrB a m n).set j y) with ⟨_, h2⟩ | ⟨a', m', n', _, h2, h3⟩
  · exact ⟨0, 0, 0, false, h2, .inl rfl⟩
  · refine ⟨a', m', n', true, h3, .inr fun ⟨e1, e2, e3⟩ => ?_⟩
    obtain rfl := Int.ofNat.inj e1
    obtain rfl := Int.ofNat.inj e2
    obtain rfl := Int.ofNat.inj e3
    rw [List.take_of_length_le (by rw [List.length_set, hdrB_length]; exact Nat.le_refl _)] at h2
    have hj : j < (hdrB a' m' n').length := (List.getElem?_eq_some_iff.1 h).1
    have := congrArg (·[j]?) h2
    simp only [List.getElem?_set_self hj, h, Option.some.injEq] at this
    exact hy this.symm

theorem turn_ne (x y : UInt8) (h : y ≠ 0) : x ^^^ y ≠ x := by
  intro e
  apply h
  have : x ^^^ (x ^^^ y) = x ^^^ x := by rw [e]
  simpa [← UInt8.xor_assoc] using this

set_option maxRecDepth 100000 in
set_option maxHeartbeats 4000000 in
theorem hback_walk (p : Option Addr) (len cap : Nat) (l : List UInt8) (a m n turn by_ : Int) (w : World) (h : Has w p l) (hlen : l.length = len) (hcap : len ≤ cap) (hm : cap ≤ maxLen) (hp : p = none → cap = 0) (hby : 0 ≤ by_ ∧ by_ < 256) :
    Calls Try.prog 4 #[.slice p len cap, .int .i64 a, .int .i64 m, .int .i64 n, .int .i64 turn, .int .u8 by_] w fun e w' => e = .returned (.bool true) ∧ Below w.heap.size w w' := by
  by_cases hbig : 10000 < len
  · have hI : (10000 : Int) < (len : Int) := by omega
    clear h hlen
    go_enter Try.func4, Try.ntmps4
    go_wp2_with fail
    refine (hup_any _).mono ?_
    rintro e w1 ⟨rfl, hb1⟩
    go_wp2_with fail
    go_ret
    exact ⟨rfl, hb1⟩
  have hI : ¬ (10000 : Int) < (len : Int) := by omega
  have HG := Lib.hid fun (q : Option Addr) (ln cp : Nat) (r : List UInt8) (W : World) (h1 : Has W q r) (h2 : r.length = ln) (h3 : ln ≤ cp) (h4 : cp ≤ maxLen) => hGet_any q ln cp r W h1 h2 h3 h4
  have HH := Lib.hid h
  have HL := Lib.hid hlen
  have hg := fun W (hb : Below w.heap.size w W) => hGet_any p len cap l W (h.below hb) hlen hcap hm
  have hl10 : len ≤ 10000 := by omega
  obtain ⟨x, y, z, ok, he, hfact⟩ : ∃ (x y z : Int) (ok : Bool), hgot l = .returned (.tuple #[hd3 x y z, .bool ok]) ∧ (ok = false ∨ ok = true ∧ 64 ≤ len ∧ ∀ W, Calls Try.prog 8 #[hd3 x y z] W (Str 64 (l.take 64) W)) := by
    rcases hgot_cases l with ⟨_, h2⟩ | ⟨x, y, z, h1, h2, h3⟩
    · exact ⟨0, 0, 0, false, h2, .inl rfl⟩
    · refine ⟨x, y, z, true, h3, .inr ⟨rfl, ?_, fun W => ?_⟩⟩
      · have := congrArg List.length h2
        rw [hdrB_length, List.length_take] at this
        omega
      · rw [← h2]
        exact (hPut_yes x y z W h1).mono fun _ _ h => h.toH.toStr
  rw [he] at hg
  have HG0 := Lib.hid hg
  have HF := Lib.hid hfact
  clear hg hfact he h hlen hbig
  go_enter Try.func4, Try.ntmps4
  go_wp2_with fail
  refine (hup_any _).mono ?_
  rintro e w1 ⟨rfl, hb1⟩
  go_wp2_with fail
  refine (HG0.out _ hb1).mono ?_
  rintro e w2 ⟨rfl, hbb2⟩
  have hb2 : Below w.heap.size w w2 := hb1.trans (hbb2.mono hb1.size)
  clear hbb2 hb1
  go_upto_region 5 with fail
  go_cut [37] (fun s37 wx => s37 = .bool false ∧ wx = w2.alloc (.cells #[.int .i64 x, .int .i64 y, .int .i64 z] 25))
  case first =>
    rcases HF.out with rfl | ⟨rfl, h64, _⟩
    · go_wp2_with fail
      go_meet
      exact ⟨rfl, rfl⟩
    · have hJ : ¬ (len : Int) < 64 := by omega
      go_wp2_with fail
      go_meet
      exact ⟨rfl, rfl⟩
  case rest =>
    obtain ⟨rfl, rfl⟩ := hcut
    go_upto_region 7 with fail
    go_cut [47] (fun s47 wx => s47 = .bool false ∧ Below w.heap.size w wx)
    case first =>
      have hb3 := hb2.alloc hb2.size (.cells #[.int .i64 x, .int .i64 y, .int .i64 z] 25)
      rcases HF.out with rfl | ⟨rfl, h64, hput⟩
      · go_quiet (fail)
        go_wp2_with fail
        go_meet
        exact ⟨rfl, below_drewN hb3 _⟩
      · have HP := Lib.hid hput
        obtain ⟨b, off, rfl, _⟩ := HH.out.plain (by have := HL.out; omega)
        have hs : Has w (some ⟨b, off, none⟩) (l.take 64) := by
          have h0 := HH.out.cut 0 64 len (by have := HL.out; omega) (by have := HL.out; omega)
          rw [if_neg (by omega), List.drop_zero] at h0
          simpa [Addr.add] using h0
        have hcs : ∀ W, Below w.heap.size w W → ∀ N, N = W.heap.size → ∀ V, Below N W V → (convert 22 9 (.slice (some ⟨b, off, none⟩) 64 cap)).run Try.prog V = .ok (.string (str (l.take 64))) V := fun W hb N hN => conv_at (hs.below hb) (by simp; have := HL.out; omega) hN
        have HCS := Lib.hid hcs
        have hc64 : 64 ≤ cap := by omega
        obtain ⟨N0, hN0⟩ : ∃ N0, N0 = (w2.alloc (.cells #[.int .i64 x, .int .i64 y, .int .i64 z] 25)).heap.size := ⟨_, rfl⟩
        have hc0 := hcs _ hb3 N0 hN0
        have hr0 := (Below.refl N0 (w2.alloc (.cells #[.int .i64 x, .int .i64 y, .int .i64 z] 25))).drew
        clear hput hs hcs hN0
        have c0 : (w2.alloc (.cells #[.int .i64 x, .int .i64 y, .int .i64 z] 25)).cell? ⟨w2.heap.size, 0, none⟩ = some (.int .i64 x) := by simp
        have c1 : (w2.alloc (.cells #[.int .i64 x, .int .i64 y, .int .i64 z] 25)).cell? ⟨w2.heap.size, 1, none⟩ = some (.int .i64 y) := by simp
        have c2 : (w2.alloc (.cells #[.int .i64 x, .int .i64 y, .int .i64 z] 25)).cell? ⟨w2.heap.size, 2, none⟩ = some (.int .i64 z) := by simp
        generalize hW0 : w2.alloc (.cells #[.int .i64 x, .int .i64 y, .int .i64 z] 25) = W0 at *
        clear hW0
        generalize w2.heap.size = g at *
        go_region_held (fun W => W.cell? ⟨g, 0, none⟩ = some (.int .i64 x) ∧ W.cell? ⟨g, 1, none⟩ = some (.int .i64 y) ∧ W.cell? ⟨g, 2, none⟩ = some (.int .i64 z)) (first | go_keep | exact ⟨c0, c1, c2⟩ | exact ⟨k0, k1, k2⟩ | fail) (first | (go_at_call 8; refine (HP.out _).mono ?_; rintro e w4 ⟨pc, cc, Nc, rfl, hcc, hNc, hbc⟩; have hb4 : Below w.heap.size w w4 := hb3.drew.trans (hbc.mono (by exact hb3.size)); have k0 := cell_later hbc c0; have k1 := cell_later hbc c1; have k2 := cell_later hbc c2; have hc1 := HCS.out w4 hb4 Nc hNc; have hrc := Below.refl Nc w4; clear hNc hbc) | fail)
        all_goals
          go_wp2_with fail
          go_meet
          exact ⟨rfl, hb4⟩
    case rest =>
      obtain ⟨rfl, hb3⟩ := hcut
      by_cases hmay : mayH a m n
      · obtain ⟨a, rfl⟩ := Int.eq_ofNat_of_zero_le (show 0 ≤ a from hmay.1)
        obtain ⟨m, rfl⟩ := Int.eq_ofNat_of_zero_le (show 0 ≤ m by have := hmay.2.2.1; omega)
        obtain ⟨n, rfl⟩ := Int.eq_ofNat_of_zero_le (show 0 ≤ n by have := hmay.2.2.2.2.1; omega)
        have HM := Lib.hid hmay
        have HP : Hid (∀ W, Calls Try.prog 8 #[hd3 a m n] W (Gives (hdrB a m n) W)) := Lib.hid fun W => hPut_yes a m n W hmay
        clear hmay
        have hba := hb3.alloc hb3.size (.cells #[.int .i64 (a : Int), .int .i64 (m : Int), .int .i64 (n : Int)] 25)
        go_wp2_with fail
        refine (HP.out _).mono ?_
        rintro e w4 ⟨v4, rfl, hown4, hbh4⟩
        have c0 : (wc.alloc (.cells #[.int .i64 (a : Int), .int .i64 (m : Int), .int .i64 (n : Int)] 25)).cell? ⟨wc.heap.size, 0, none⟩ = some (.int .i64 (a : Int)) := by simp
        have c1 : (wc.alloc (.cells #[.int .i64 (a : Int), .int .i64 (m : Int), .int .i64 (n : Int)] 25)).cell? ⟨wc.heap.size, 1, none⟩ = some (.int .i64 (m : Int)) := by simp
        have c2 : (wc.alloc (.cells #[.int .i64 (a : Int), .int .i64 (m : Int), .int .i64 (n : Int)] 25)).cell? ⟨wc.heap.size, 2, none⟩ = some (.int .i64 (n : Int)) := by simp
        generalize hWA : wc.alloc (.cells #[.int .i64 (a : Int), .int .i64 (m : Int), .int .i64 (n : Int)] 25) = wa at *
        generalize wc.heap.size = gh at *
        clear hWA hb3
        rw [hdrB_length] at hown4
        obtain ⟨g1, cp1, rfl, hg1, hg1s⟩ := hown4.form (by omega)
        have hcp1 : 64 ≤ cp1 ∧ cp1 ≤ maxLen := by
          obtain ⟨p', c', e, h1, h2, _, _⟩ := Has.of_owns hown4
          cases e
          exact ⟨h1, h2⟩
        obtain ⟨i0, hi, hz0, hz1, hz2⟩ := info_parts Try.infoU8
        have hl0 : (w4.alloc (.cells #[] 5)).ownsRow wa.heap.size 5 1 (.slice (some ⟨w4.heap.size, 0, none⟩) 0 0) 0 (([] : List UInt8).map u8v) := owns_lower (lit_owns w4 [] 0 #[] rfl rfl (Nat.zero_le _)) hbh4.size
        have hown4a := hown4.alloc (.cells #[] 5)
        have hH4 : Has (w4.alloc (.cells #[] 5)) (some ⟨g1, 0, none⟩) (hdrB a m n) := by
          obtain ⟨p', c', e, _, _, _, h4⟩ := Has.of_owns hown4a
          cases e
          exact h4
        have HI := Lib.hid hi
        have H0 := Lib.hid hz0
        have H1 := Lib.hid hz1
        have H2 := Lib.hid hz2
        have HH4 := Lib.hid hH4
        have HHL := Lib.hid (hdrB_length a m n)
        obtain ⟨hd, hhd⟩ : ∃ hd, hd = hdrB a m n := ⟨_, rfl⟩
        rw [← hhd] at HH4 HHL hown4 hown4a
        have HHD := Lib.hid hhd
        have HCA := Lib.hid hp
        clear hi hz0 hz1 hz2 hH4 hhd hp
        go_wp2_with (at_builtin; refine wpList_append_bytes _ rfl (.tmp 59) (.tmp 60) 22 rfl wa.heap.size 5 i0 Try.underlying22 HI.out H0.out H1.out H2.out _ 0 [] rfl hl0 (some ⟨g1, 0, none⟩) 64 cp1 hd rfl HH4.out HHL.out (fun h => by cases h) (by omega) (by have := hbh4.size; simp; omega) ?_)
        intro v5 w5 hown5 hgrow5 hat5
        have hbh5 : Below wa.heap.size wa w5 := (hbh4.alloc hbh4.size _).grown hgrow5 (by have := hbh4.size; simp; omega) (fun g hg => (hl0.lt g hg).1)
        have hput5 := hown4a.kept hgrow5 (.inr (by simp [Value.ownBlock]; omega))
        have hap5 : v5.ownBlock ≠ some g1 := by
          rcases hat5 with e | e
          · rw [e]; simp [Value.ownBlock]; omega
          · rw [e]; simp; omega
        have hbw5 := hba.trans (hbh5.mono hba.size)
        have hHp : Has w5 p l := HH.out.below hbw5
        have HHp := Lib.hid hHp
        clear hl0 hown4 hown4a hgrow5 hat5 hHp hbh4 hg1s
        go_wp2_with (at_builtin; refine wpList_append_bytes _ rfl (.tmp 61) (.tmp 62) 22 rfl wa.heap.size 5 i0 Try.underlying22 HI.out H0.out H1.out H2.out _ 64 hd rfl hown5 p len cap l rfl HHp.out HL.out HCA.out (by omega) hbh5.size ?_)
        intro v6 w6 hown6 hgrow6 hat6
        rw [← List.map_append] at hown6
        have hbh6 : Below wa.heap.size wa w6 := hbh5.grown hgrow6 hbh5.size (fun g hg => (hown5.lt g hg).1)
        have hput6 := hput5.kept hgrow6 (.inr (by simpa [Value.ownBlock] using hap5.symm))
        obtain ⟨p6, c6, rfl, hn6, hc6, hl6, hH6⟩ := Has.of_owns hown6
        have hG6 := HG.out p6 _ c6 _ w6 hH6 hl6 hn6 hc6
        rw [HHD.out, hgot_put l HM.out] at hG6
        have HG6 := Lib.hid hG6
        clear hown5 hgrow6 hat6 hput5 hap5 hown6 hG6 hH6 hl6 hbh5 hbw5
        go_wp2_with fail
        refine HG6.out.mono ?_
        rintro e w7 ⟨rfl, hbb7⟩
        have hbh7 : Below wa.heap.size wa w7 := hbh6.trans (hbb7.mono hbh6.size)
        have hput7 := owns_below hput6 hbb7
        have k0 := cell_later hbh7 c0
        have k1 := cell_later hbh7 c1
        have k2 := cell_later hbh7 c2
        have hbw7 := hba.trans (hbh7.mono hba.size)
        have hghl : gh < w7.heap.size := World.block_lt_of_cell? w7 _ k0
        have hgne : ¬ gh = w7.heap.size := by omega
        clear hput6 hbb7 hbh6
        by_cases t1 : turn < 0
        · go_wp2_with fail
          go_ret
          exact ⟨rfl, hbw7.alloc hbw7.size _⟩
        by_cases t2 : 63 < turn
        · go_wp2_with fail
          go_ret
          exact ⟨rfl, hbw7.alloc hbw7.size _⟩
        by_cases t3 : by_ = 0
        · subst t3
          go_wp2_with fail
          go_ret
          exact ⟨rfl, hbw7.alloc hbw7.size _⟩
        obtain ⟨j, rfl⟩ := Int.eq_ofNat_of_zero_le (show 0 ≤ turn by omega)
        obtain ⟨y, hy⟩ : ∃ y : UInt8, by_ = (y.toNat : Int) := ⟨UInt8.ofNat by_.toNat, by simp; omega⟩
        subst hy
        have t3' : ((y.toNat : Int) == 0) = false := by simpa using t3
        obtain ⟨xx, hxx⟩ : ∃ xx, hd[j]? = some xx := ⟨_, List.getElem?_eq_getElem (by rw [HHL.out]; omega)⟩
        obtain ⟨z, hz⟩ : ∃ z, z = xx ^^^ y := ⟨_, rfl⟩
        have hzx : z ≠ xx := by
          rw [hz]
          exact turn_ne xx y fun e => t3 (by rw [e]; rfl)
        have hxor : bits .xor .u8 (xx.toNat : Int) (y.toNat : Int) = (z.toNat : Int) := by
          rw [u8_xor_nat _ _ xx.toNat_lt y.toNat_lt, hz, UInt8.toNat_xor]
        have q0 : w7.cell? ⟨g1, j, none⟩ = some (.int .u8 (xx.toNat : Int)) := by
          rw [hput7.cellAt j (by omega), List.getElem?_map, hxx]
          rfl
        have q1 := hput7.frozenAt j
        have hg1l : g1 < w7.heap.size := World.block_lt_of_cell? w7 _ q0
        have hg1n : ¬ g1 = w7.heap.size := by omega
        have hgg : ¬ gh = g1 := by
          intro e
          subst e
          have := World.block_lt_of_cell? wa _ c0
          simp only at this
          omega
        obtain ⟨w9, hw9⟩ : ∃ w9, w9 = (w7.setCell ⟨g1, j, none⟩ (.int .u8 (z.toNat : Int))).alloc (.cells #[.int .i64 (a : Int), .int .i64 (m : Int), .int .i64 (n : Int)] 25) := ⟨_, rfl⟩
        have hst : w9.ownsRow wa.heap.size 5 1 (.slice (some ⟨g1, 0, none⟩) 64 cp1) 64 ((hd.set j z).map u8v) := by
          have h0 := ((hput7.stored j (u8v z)).1).alloc (.cells #[.int .i64 (a : Int), .int .i64 (m : Int), .int .i64 (n : Int)] 25)
          rw [← List.map_set] at h0
          rw [hw9]
          exact h0
        have hb9 : Below wa.heap.size wa w9 := by
          rw [hw9]
          exact (hbh7.setCell hg1 _).alloc (by have := hbh7.size; simpa using this) _
        obtain ⟨p9, c9, e9, hn9, hc9, hl9, hH9⟩ := Has.of_owns hst
        cases e9
        have hG9 := HG.out _ 64 cp1 _ w9 hH9 hl9 hn9 hc9
        obtain ⟨a', m', n', ok', he9, hdiff⟩ := hgot_turned (HHD.out ▸ hxx) hzx
        rw [HHD.out, he9, hw9] at hG9
        have HG9 := Lib.hid hG9
        have HDF := Lib.hid hdiff
        rw [hw9] at hb9
        have HXX := Lib.hid hxx
        have hjI : (j : Int) ≤ 63 := by omega
        have hj64 : (j : Int) < 64 := by omega
        have hj0 : (0 : Int) ≤ (j : Int) := by omega
        clear t1 t2 t3 hz hst hput7 hxx hH9 hl9 hn9 hc9 hG9 hdiff he9 hw9
        go_wp2_with fail
        refine HG9.out.mono ?_
        rintro e w10 ⟨rfl, hbb10⟩
        have hbh10 := hb9.trans (hbb10.mono hb9.size)
        have r0 := cell_later hbh10 c0
        have r1 := cell_later hbh10 c1
        have r2 := cell_later hbh10 c2
        have hbw10 := hba.trans (hbh10.mono hba.size)
        have hgh10 : gh < w10.heap.size := World.block_lt_of_cell? w10 _ r0
        have hgn10 : ¬ gh = w10.heap.size := by omega
        clear hbb10 hb9
        cases ok' with
        | false =>
          go_wp2_with fail
          go_ret
          exact ⟨rfl, hbw10.alloc hbw10.size _⟩
        | true =>
          have hne : ¬ (a' = (a : Int) ∧ m' = (m : Int) ∧ n' = (n : Int)) := HDF.out.resolve_left (by decide)
          have HNE := Lib.hid hne
          clear hne
          by_cases q1 : a' = (a : Int)
          · by_cases q2 : m' = (m : Int)
            · have q3 : ¬ n' = (n : Int) := fun h => HNE.out ⟨q1, q2, h⟩
              subst q1
              subst q2
              go_wp2_with fail
              go_ret
              exact ⟨rfl, hbw10.alloc hbw10.size _⟩
            · subst q1
              go_wp2_with fail
              go_ret
              exact ⟨rfl, hbw10.alloc hbw10.size _⟩
          · go_wp2_with fail
            go_ret
            exact ⟨rfl, hbw10.alloc hbw10.size _⟩
      · have HP := Lib.hid fun W => hPut_no a m n W hmay
        clear hmay
        have hba := hb3.alloc hb3.size (.cells #[.int .i64 a, .int .i64 m, .int .i64 n] 25)
        go_wp2_with fail
        refine (HP.out _).mono ?_
        rintro e w4 ⟨p4, c4, rfl, _, _, _, _, hbb4⟩
        have hb4 : Below w.heap.size w w4 := hba.trans (hbb4.mono (by exact hba.size))
        clear hbb4 hba hb3
        go_wp2_with fail
        go_ret
        exact ⟨rfl, hb4⟩

end Go.Proofs.Yteneljkpmheplaa
