/-
  Contract of the law's 'alone'.
-/
import Derived.Test.YtmcegjkkgbnjlaaPieceMay
import Derived.Test.YtmcegjkkgbnjlaaShape
import Derived.Test.YtmcegjkkgbnjlaaSecArg
namespace Go.Proofs.Ytmcegjkkgbnjlaa
open Go.RowKit

def sym0D : SymD := ⟨ByteArray.empty, 0, 0, 0, 0, 0⟩
def aloneO (s : SecD) : ObjD := ⟨[s], [sym0D], [], false, []⟩
theorem alone_facts {s : SecD} (h : shapeB (aloneO s) = true) : SecFacts s := by
  unfold shapeB at h
  rw [Bool.and_eq_true, Bool.and_eq_true, Bool.and_eq_true, Bool.and_eq_true] at h
  have h3 := h.1.1.2
  have h4 : secOK 1 1 [] 0 s = true := by
    have := List.all_eq_true.1 h3 (s, 0) (by simp [aloneO])
    exact this
  unfold secOK at h4
  have h5 := (cond_false_of h4).1
  rw [Bool.or_eq_false_iff, Bool.or_eq_false_iff] at h5
  have h6 : kindS s = true := by simpa using h5.1.2
  exact kind_facts h6

theorem alone_parts (U : World) (s : SecD) (dp rp : Option Addr) (dc rc : Nat) (T1 T2 : TypeId) (hd : IsL 1 EByte U (.slice dp s.data.length dc) s.data) (hr : IsL 4 ERel U (.slice rp s.rels.length rc) s.rels)
    (hn : s.name.size ≤ maxLen) (hb : ∀ x ∈ [s.type, s.flags, s.align, s.ent, s.link, s.size], -9223372036854775808 ≤ x ∧ x ≤ 9223372036854775807) :
    ObjParts ((U.alloc (.cells #[.string s.name, .int .i64 s.type, .int .i64 s.flags, .int .i64 s.align, .int .i64 s.ent, .int .i64 s.link, .int .i64 s.size, .slice dp s.data.length dc, .slice rp s.rels.length rc] T1)).alloc (.cells #[.string ByteArray.empty, .int .i64 0, .int .i64 0, .int .i64 0, .int .i64 0, .int .i64 0] T2))
      (.slice (some ⟨U.heap.size, 0, none⟩) 1 1) (.slice (some ⟨U.heap.size + 1, 0, none⟩) 1 1) (.slice none 0 0) (.slice none 0 0) (aloneO s) := by
  have hct := cells_two U #[.string s.name, .int .i64 s.type, .int .i64 s.flags, .int .i64 s.align, .int .i64 s.ent, .int .i64 s.link, .int .i64 s.size, .slice dp s.data.length dc, .slice rp s.rels.length rc] #[.string ByteArray.empty, .int .i64 0, .int .i64 0, .int .i64 0, .int .i64 0, .int .i64 0] T1 T2
  have hbel : Below U.heap.size U ((U.alloc (.cells #[.string s.name, .int .i64 s.type, .int .i64 s.flags, .int .i64 s.align, .int .i64 s.ent, .int .i64 s.link, .int .i64 s.size, .slice dp s.data.length dc, .slice rp s.rels.length rc] T1)).alloc (.cells #[.string ByteArray.empty, .int .i64 0, .int .i64 0, .int .i64 0, .int .i64 0, .int .i64 0] T2)) := ((Below.refl _ U).alloc (Nat.le_refl _) _).alloc (by simp) _
  have hd2 := hd.below EByte.keeps hbel
  have hr2 := hr.below ERel.keeps hbel
  generalize (U.alloc (.cells #[.string s.name, .int .i64 s.type, .int .i64 s.flags, .int .i64 s.align, .int .i64 s.ent, .int .i64 s.link, .int .i64 s.size, .slice dp s.data.length dc, .slice rp s.rels.length rc] T1)).alloc (.cells #[.string ByteArray.empty, .int .i64 0, .int .i64 0, .int .i64 0, .int .i64 0, .int .i64 0] T2) = V at *
  refine ⟨⟨_, 1, rfl, Nat.le_refl _, (by decide), (fun h => by cases h), fun i x hx => ⟨U.heap.size, 0, rfl, ?_⟩⟩, ⟨_, 1, rfl, Nat.le_refl _, (by decide), (fun h => by cases h), fun i x hx => ⟨U.heap.size + 1, 0, rfl, ?_⟩⟩, ⟨none, 0, rfl, Nat.le_refl _, (by decide), (fun _ => rfl), fun i x hx => by simp [aloneO] at hx⟩, ⟨none, 0, rfl, Nat.le_refl _, (by decide), (fun _ => rfl), fun i x hx => by simp [aloneO] at hx⟩⟩
  · match i, hx with
    | 0, hx =>
      cases hx
      refine ⟨⟨hct.1 0, hn⟩, ⟨hct.1 1, hb _ (by simp)⟩, ⟨hct.1 2, hb _ (by simp)⟩, ⟨hct.1 3, hb _ (by simp)⟩, ⟨hct.1 4, hb _ (by simp)⟩, ⟨hct.1 5, hb _ (by simp)⟩, ⟨hct.1 6, hb _ (by simp)⟩, ⟨_, hct.1 7, hd2⟩, ⟨_, hct.1 8, hr2⟩⟩
  · match i, hx with
    | 0, hx =>
      cases hx
      refine ⟨⟨hct.2 0, by decide⟩, ⟨hct.2 1, by decide⟩, ⟨hct.2 2, by decide⟩, ⟨hct.2 3, by decide⟩, ⟨hct.2 4, by decide⟩, ⟨hct.2 5, by decide⟩⟩

set_option maxRecDepth 100000 in
set_option maxHeartbeats 2000000 in
theorem alone_any (s : SecD) (dp rp : Option Addr) (dc rc : Nat) (w : World) (hd : IsL 1 EByte w (.slice dp s.data.length dc) s.data) (hr : IsL 4 ERel w (.slice rp s.rels.length rc) s.rels)
    (hn : s.name.size ≤ maxLen) (hb : ∀ x ∈ [s.type, s.flags, s.align, s.ent, s.link, s.size], -9223372036854775808 ≤ x ∧ x ≤ 9223372036854775807) :
    Calls Try.prog 68 #[secVS s (.slice dp s.data.length dc) (.slice rp s.rels.length rc)] w fun e w' => ∃ r, e = .returned (.int .i64 r) ∧ Below w.heap.size w w' ∧ (r = 0 ∨ (r = 1 ∧ SecFacts s ∧ s.data.length ≤ 4000)) := by
  have hb1 : Below w.heap.size w (w.alloc (.cells #[.string s.name, .int .i64 s.type, .int .i64 s.flags, .int .i64 s.align, .int .i64 s.ent, .int .i64 s.link, .int .i64 s.size, .slice dp s.data.length dc, .slice rp s.rels.length rc] 104)) := (Below.refl _ w).alloc (Nat.le_refl _) _
  have hcell : ∀ i v, (#[.string s.name, .int .i64 s.type, .int .i64 s.flags, .int .i64 s.align, .int .i64 s.ent, .int .i64 s.link, .int .i64 s.size, .slice dp s.data.length dc, .slice rp s.rels.length rc] : Array Value)[i]? = some v → (w.alloc (.cells #[.string s.name, .int .i64 s.type, .int .i64 s.flags, .int .i64 s.align, .int .i64 s.ent, .int .i64 s.link, .int .i64 s.size, .slice dp s.data.length dc, .slice rp s.rels.length rc] 104)).cell? ⟨w.heap.size, i, none⟩ = some v := fun i v hv =>
    (cell_of_row _ w.heap.size i _ 104 (0, 0) (heap_alloc_new w _)).trans hv
  have a0 := hcell 0 _ rfl
  have a1 := hcell 1 _ rfl
  have a2 := hcell 2 _ rfl
  have a3 := hcell 3 _ rfl
  have a4 := hcell 4 _ rfl
  have a5 := hcell 5 _ rfl
  have a6 := hcell 6 _ rfl
  have a7 := hcell 7 _ rfl
  have a8 := hcell 8 _ rfl
  have hd1 := hd.below EByte.keeps hb1
  have hr1 := hr.below ERel.keeps hb1
  have hrm : s.rels.length ≤ 9223372036854775807 := by
    obtain ⟨_, _, e, h1, h2, _⟩ := hr
    cases e
    unfold maxLen at h2
    omega
  clear hd hr hcell
  have hbx := (hb1.alloc hb1.size (.cells #[.string s.name, .int .i64 s.type, .int .i64 s.flags, .int .i64 s.align, .int .i64 s.ent, .int .i64 s.link, .int .i64 s.size, .slice dp s.data.length dc, .slice rp s.rels.length rc] 104)).alloc (by have := hb1.size; simp; omega) (.cells #[.string ByteArray.empty, .int .i64 0, .int .i64 0, .int .i64 0, .int .i64 0, .int .i64 0] 145)
  have hsh := shape_any (aloneO s) _ _ _ _ _ (alone_parts _ s dp rp dc rc 104 145 hd1 hr1 hn hb) (by simp [aloneO]) (fun g hg => by simp [aloneO] at hg)
  have hfa : shapeB (aloneO s) = true → SecFacts s := alone_facts
  generalize shapeB (aloneO s) = q at *
  have HSH := Lib.hid hsh
  have HFA := Lib.hid hfa
  clear hsh hfa hd1 hr1 hn hb
  generalize hdl : s.data.length = dl at *
  generalize s.rels.length = rl at *
  go_enter Try.func68, Try.ntmps68
  go_upto_region 1 with fail
  generalize hgb : w.heap.size = gb at *
  generalize w.alloc (.cells #[.string s.name, .int .i64 s.type, .int .i64 s.flags, .int .i64 s.align, .int .i64 s.ent, .int .i64 s.link, .int .i64 s.size, .slice dp dl dc, .slice rp rl rc] 104) = W1 at *
  by_cases t1 : 4000 < dl
  · have t1d : decide ((4000 : Int) < (dl : Int)) = true := decide_eq_true (by omega)
    go_wp2_with fail
    go_ret
    subst hgb
    exact ⟨0, rfl, hb1, .inl rfl⟩
  have t1d : decide ((4000 : Int) < (dl : Int)) = false := decide_eq_false (by omega)
  rcases Nat.eq_zero_or_pos rl with h0 | h0
  · subst h0
    cases t3 : (s.link != 0) with
    | true =>
      go_wp2_with fail
      go_ret
      subst hgb
      exact ⟨0, rfl, hb1, .inl rfl⟩
    | false =>
      go_wp2_with fail
      refine HSH.out.mono ?_
      rintro e w2 ⟨rfl, hb2⟩
      have hb3 := hbx.trans (hb2.mono (by rw [← hgb]; exact hbx.size))
      cases q with
      | true =>
        have HF := HFA.out rfl
        have HF2 := Lib.hid HF
        clear HF
        go_wp2_with fail
        go_ret
        subst hgb
        exact ⟨1, rfl, hb3, .inr ⟨rfl, HF2.out, by omega⟩⟩
      | false =>
        go_wp2_with fail
        go_ret
        subst hgb
        exact ⟨0, rfl, hb3, .inl rfl⟩
  · have t2d : decide ((0 : Int) < (rl : Int)) = true := decide_eq_true (by omega)
    go_wp2_with fail
    go_ret
    subst hgb
    exact ⟨0, rfl, hb1, .inl rfl⟩

end Go.Proofs.Ytmcegjkkgbnjlaa
