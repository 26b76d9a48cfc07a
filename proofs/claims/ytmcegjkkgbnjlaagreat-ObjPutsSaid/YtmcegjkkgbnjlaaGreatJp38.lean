/-
  What was put is read, part C: relocations, groups, Sig; the whole. Nothing here walks the program.
  What was put is got: an object that may be is got of its bytes. Nothing here walks the program.
  Contract of the project's own Put.
  Contract of the statements' Small.
-/
import Derived.Test.YtmcegjkkgbnjlaaGreatJp23
import Derived.Test.YtmcegjkkgbnjlaaGreatJp37
import Derived.Test.YtmcegjkkgbnjlaaGreatJp36
import Derived.Test.YtmcegjkkgbnjlaaGreatJp31
import Derived.Test.YtmcegjkkgbnjlaaGreatJp05
import Derived.Deep.QuietTactic
import Derived.BigQuiet
import Derived.Deep.DeepCutAuto
namespace Go.Proofs.YtmcegjkkgbnjlaaGreat
open Go.RowKit

theorem rest_append {l : List UInt8} {L : List Ten} {ns : List Int} {sy : Int} : ∀ (A B : List Ten) (st st' : StD), restGo l L ns sy A st = some st' → restGo l L ns sy (A ++ B) st = restGo l L ns sy B st'
  | [], _, _, _, h => by cases h; rfl
  | t :: A, B, st, st', h => by
    rw [List.cons_append]
    unfold restGo at h
    conv => lhs; unfold restGo
    cases hs : stepB l L ns sy t st with
    | none => rw [hs] at h; cases h
    | some s2 =>
      rw [hs] at h
      exact rest_append A B s2 st' h
theorem rest_skip {l : List UInt8} {L : List Ten} {ns : List Int} {sy : Int} : ∀ (A : List Ten) (st : StD), (∀ t ∈ A, t.b ≠ 4 ∧ t.b ≠ 17 ∧ t.b ≠ 1879002115) → restGo l L ns sy A st = some st
  | [], _, _ => rfl
  | t :: A, st, h => by
    obtain ⟨h1, h2, h3⟩ := h t (List.mem_cons_self ..)
    unfold restGo stepB
    rw [show (t.b == 4) = false by simpa using h1, show (t.b == 17) = false by simpa using h2, show (t.b == 1879002115) = false by simpa using h3]
    exact rest_skip A st fun u hu => h u (List.mem_cons_of_mem _ hu)

section
variable {o : ObjD} {S R G : List Ten} {t0 y u v : Ten}
/-! ## Relocations -/
theorem relOf_fou (r : RelD) : relOf (fouOf r) = r := rfl
theorem rel_go {l : List UInt8} {e : Nat} {rs : List RelD} (hok : ∀ r ∈ rs, (fouOf r).may ∧ (fouOf r).bd) (hin : e + 24 * rs.length ≤ l.length) (hwin : win l e (24 * rs.length) = relsBy rs) :
    ∀ m i, i + m = rs.length → relGo l (e : Int) i m (rs.take i) = some rs
  | 0, i, h => by
    show some _ = some _
    rw [List.take_of_length_le (by omega)]
  | m + 1, i, h => by
    have hr : rs[i]? = some _ := List.getElem?_eq_getElem (show i < rs.length by omega)
    have hm := hok _ (List.mem_of_getElem? hr)
    have hat : relAt l ((e : Int) + 24 * (i : Int)) = some (fouOf (rs[i]'(by omega))) := by
      rw [show (e : Int) + 24 * (i : Int) = ((e + 24 * i : Nat) : Int) by omega]
      refine (relAt_iff _ _ _).2 ⟨hm.1, hm.2, by omega, ?_⟩
      rw [← win_win l e (24 * rs.length) (24 * i) 24 (by omega), hwin]
      exact (flat_win (n := 24) (f := fun r => relB (fouOf r)) (fun x => relB_length _) hr).symm
    rw [relGo_step, hat]
    have e2 := take_snoc hr
    simp only [relOf_fou, ← e2]
    exact rel_go hok hin hwin m (i + 1) (by omega)
/-- The sections of which the first k have their relocations. -/
def upto (ss : List SecD) (k : Nat) : List SecD := ss.take k ++ (ss.drop k).map bare
theorem upto_get {ss : List SecD} {k : Nat} {s : SecD} (h : ss[k]? = some s) : (upto ss k)[k]? = some (bare s) := by
  have hl := (List.getElem?_eq_some_iff.1 h).1
  unfold upto
  rw [List.getElem?_append_right (by rw [List.length_take]; omega), List.length_take, Nat.min_eq_left (by omega), Nat.sub_self, List.getElem?_map, List.getElem?_drop, Nat.add_zero, h]
  rfl
theorem upto_step {ss : List SecD} {k : Nat} {s : SecD} (h : ss[k]? = some s) : (upto ss k).set k s = upto ss (k + 1) := by
  have hl := (List.getElem?_eq_some_iff.1 h).1
  unfold upto
  rw [List.set_append_right _ _ (by rw [List.length_take]; omega), List.length_take, Nat.min_eq_left (by omega), Nat.sub_self, List.drop_eq_getElem_cons hl, List.map_cons, List.set_cons_zero, take_snoc h, List.append_assoc]
  rfl
theorem upto_bare {ss : List SecD} {k : Nat} {s : SecD} (h : ss[k]? = some s) (hb : bare s = s) : upto ss (k + 1) = upto ss k := by
  rw [← upto_step h]
  refine set_same ?_
  rw [upto_get h, hb]
theorem upto_all (ss : List SecD) : upto ss ss.length = ss := by simp [upto]
theorem Cut.sec_at (c : Cut o S R G t0 y u v) {k : Nat} {s : SecD} (h : o.secs[k]? = some s) : ∃ t, (headL o)[k + 1]? = some t ∧ t.b = s.type := by
  have hl := (List.getElem?_eq_some_iff.1 h).1
  obtain ⟨t, ht, hT⟩ := c.S.get (i := k) (p := secPart s) (by rw [List.getElem?_map, h]; rfl)
  refine ⟨t, ?_, hT.b⟩
  rw [c.all, List.getElem?_cons_succ, List.getElem?_append_left (by rw [c.slen]; exact hl)]
  exact ht
theorem Cut.rels_go (c : Cut o S R G t0 y u v) (hw : Well o) : ∀ (k : Nat) (ts : List Ten), k ≤ o.secs.length → Al (bytesOf o) (relPs (symNo o) o.secs k) ts →
    ∃ nm : List Bool, nm.length = (headL o).length ∧ (∀ j, k < j → j < (headL o).length → nm[j]? = some false) ∧
      restGo (bytesOf o) (headL o) (numGo 0 (headL o)) ((symNo o : Nat) : Int) ts ⟨o.secs.map bare, [], false, [], List.replicate (headL o).length false⟩ = some ⟨upto o.secs k, [], false, [], nm⟩
  | 0, _, _, .nil => ⟨List.replicate (headL o).length false, by simp, fun j _ hj => by rw [List.getElem?_replicate, if_pos hj], rfl⟩
  | k + 1, ts, hk, h => by
    have hs : o.secs[k]? = some _ := List.getElem?_eq_getElem (show k < o.secs.length by omega)
    generalize hsec : o.secs[k]'(by omega) = s at hs
    have hmem := List.mem_of_getElem? hs
    rw [relPs_succ hs] at h
    obtain ⟨T1, T2, rfl, h1, h2⟩ := h.split
    obtain ⟨nm, n1, n2, n3⟩ := c.rels_go hw k T1 (by omega) h1
    unfold relPart at h2
    by_cases hz : s.rels.length = 0
    · rw [if_pos hz] at h2
      cases h2
      have hb : bare s = s := by
        obtain ⟨a, b, d, e, f, g, i, j, rs⟩ := s
        have : rs = [] := List.length_eq_zero_iff.1 hz
        subst this
        rfl
      refine ⟨nm, n1, fun j hj => n2 j (by omega), ?_⟩
      rw [List.append_nil, n3, upto_bare hs hb]
    · rw [if_neg hz] at h2
      cases h2 with
      | cons hT h2 =>
        rename_i t ts
        cases h2
        refine ⟨nm.set (k + 1) true, by simpa using n1, fun j hj hl => by rw [List.getElem?_set_ne (by omega)]; exact n2 j (by omega) hl, ?_⟩
        rw [rest_append _ _ _ _ n3]
        obtain ⟨k1, k2, k3, k4⟩ := hT.told (by show (4 : Int) ≠ 8; decide)
        have hlen : (relsBy s.rels).length = 24 * s.rels.length := relsBy_length _
        obtain ⟨e, he⟩ := Int.eq_ofNat_of_zero_le k3
        have hfl : t.f = ((24 * s.rels.length : Nat) : Int) := by rw [k1]; show ((relsBy s.rels).length : Int) = _; rw [hlen]
        have htb : t.b = 4 := hT.b
        have htj : t.j = 24 := hT.j
        have htg : t.g = ((symNo o : Nat) : Int) := hT.g
        have hth : t.h = ((k + 1 : Nat) : Int) := by have : t.h = (k : Int) + 1 := hT.h; omega
        have hm : ((24 * s.rels.length : Nat) : Int).tmod 24 = 0 := by rw [Int.natCast_mul]; exact Int.mul_tmod_right _ _
        have hdiv : 24 * s.rels.length / 24 = s.rels.length := by omega
        obtain ⟨t', ht', hty'⟩ := c.sec_at hs
        have hty : isTy (headL o) (k + 1) 1 = true := by
          unfold isTy
          rw [ht']
          show (t'.b == 1) = true
          rw [hty', hw.rels s hmem (fun h => hz (by rw [h]; rfl))]
          rfl
        have hlt := (List.getElem?_eq_some_iff.1 ht').1
        have hnm : nm[k + 1]?.getD true = false := by rw [n2 (k + 1) (by omega) hlt]; rfl
        have hrl := hw.lays.secs s hmem
        have hgo := rel_go (l := bytesOf o) (e := e) (rs := s.rels) (fun r hr => hrl.2.2.2.2.2.2.2.2.2.2 r hr) (by omega) (by rw [he, hfl, Int.toNat_natCast] at k2; exact k2) s.rels.length 0 (by omega)
        rw [List.take_zero] at hgo
        have hra : relsAt (bytesOf o) (headL o) ((symNo o : Nat) : Int) nm t = some s.rels := by
          unfold relsAt
          rw [htj, hfl, hm, htg, hth, Int.toNat_natCast, Int.toNat_natCast, hty, hnm, hdiv, he, hgo]
          simp
        have hset : setRels (upto o.secs k) ((numGo 0 (headL o))[t.h.toNat]?.getD 0 - 1).toNat s.rels = upto o.secs (k + 1) := by
          rw [hth, Int.toNat_natCast, c.num hw (k + 1), if_pos ⟨by omega, by omega⟩, show (((k + 1 : Nat) : Int) - 1).toNat = k by omega]
          unfold setRels
          rw [upto_get hs]
          exact upto_step hs
        unfold restGo stepB
        rw [htb]
        show (match (relsAt (bytesOf o) (headL o) ((symNo o : Nat) : Int) nm t).map (fun rs => ({ secs := setRels (upto o.secs k) ((numGo 0 (headL o))[t.h.toNat]?.getD 0 - 1).toNat rs, groups := [], hasSig := false, sig := [], nm := nm.set t.h.toNat true } : StD)) with | none => none | some st' => restGo (bytesOf o) (headL o) (numGo 0 (headL o)) ((symNo o : Nat) : Int) [] st') = _
        rw [hra, Option.map_some, hset, hth, Int.toNat_natCast]
        rfl

/-! ## Groups -/
theorem mem_num {l : List UInt8} {a : Nat} {ms : List Int} (hf : ∀ m ∈ ms, fitsB m = true) (hwin : win l a (4 * ms.length) = ms.flatMap memB) {i : Nat} {m : Int} (hi : ms[i]? = some m) : num (win l (a + 4 * i) 4) = m.toNat := by
  have hl := (List.getElem?_eq_some_iff.1 hi).1
  rw [← win_win l a (4 * ms.length) (4 * i) 4 (by omega), hwin, flat_win (n := 4) (f := memB) (fun x => leB_length _ _) hi]
  have h2 := (fitsB_iff _).1 (hf m (List.mem_of_getElem? hi))
  unfold memB
  rw [num_leB, show u64n m = m.toNat by unfold u64n; omega]
  exact Nat.mod_eq_of_lt (by omega)
theorem Cut.mbr_go (c : Cut o S R G t0 y u v) (hw : Well o) {l : List UInt8} {a : Nat} {ms : List Int} (hf : ∀ m ∈ ms, fitsB m = true) (hr : ∀ m ∈ ms, 1 ≤ m ∧ m ≤ (o.secs.length : Int)) (hwin : win l a (4 * ms.length) = ms.flatMap memB) :
    ∀ k i, i + k = ms.length → mbrGo l (headL o) (numGo 0 (headL o)) a i k (ms.take i) = some ms
  | 0, i, h => by
    show some _ = some _
    rw [List.take_of_length_le (by omega)]
  | k + 1, i, h => by
    have hm : ms[i]? = some _ := List.getElem?_eq_getElem (show i < ms.length by omega)
    generalize ms[i]'(by omega) = m at hm
    have hmm := List.mem_of_getElem? hm
    have hr2 := hr m hmm
    have hn := mem_num hf hwin hm
    have hs : o.secs[m.toNat - 1]? = some _ := List.getElem?_eq_getElem (show m.toNat - 1 < o.secs.length by omega)
    obtain ⟨t, ht, htb⟩ := c.sec_at hs
    rw [show m.toNat - 1 + 1 = m.toNat by omega] at ht
    have hty : isTy (headL o) m.toNat 4 = false := by
      unfold isTy
      rw [ht]
      show (t.b == 4) = false
      rw [htb]
      rcases hw.ty _ (List.mem_of_getElem? hs) with h | h <;> rw [h] <;> rfl
    rw [mbrGo_step, hn, hty, c.num_int hw hr2, show (m == 0) = false by simp; omega]
    have e := take_snoc hm
    simp only [cond_false, ← e]
    exact c.mbr_go hw hf hr hwin k (i + 1) (by omega)
theorem Cut.group (c : Cut o S R G t0 y u v) (hw : Well o) {g : GroupD} (hg : g ∈ o.groups) {t : Ten} (hT : Tells (bytesOf o) (groupPart (symNo o) g) t) : groupAt (bytesOf o) (headL o) (numGo 0 (headL o)) ((symNo o : Nat) : Int) t = some g := by
  obtain ⟨g1, g2, g3⟩ := hw.lays.grps g hg
  obtain ⟨k1, k2, k3, k4⟩ := hT.told (by show (17 : Int) ≠ 8; decide)
  have hlen : (groupBy g.members).length = 4 + 4 * g.members.length := groupBy_length _
  obtain ⟨e, he⟩ := Int.eq_ofNat_of_zero_le k3
  have hfl : t.f = ((4 + 4 * g.members.length : Nat) : Int) := by rw [k1]; show ((groupBy g.members).length : Int) = _; rw [hlen]
  have htj : t.j = 4 := hT.j
  have htg : t.g = ((symNo o : Nat) : Int) := hT.g
  have hth : t.h = g.sym := hT.h
  have hm : ((4 + 4 * g.members.length : Nat) : Int).tmod 4 = 0 := by rw [show 4 + 4 * g.members.length = 4 * (1 + g.members.length) by omega, Int.natCast_mul]; exact Int.mul_tmod_right _ _
  have hz : (((4 + 4 * g.members.length : Nat) : Int) == 0) = false := by simp; omega
  have hdiv : (4 + 4 * g.members.length) / 4 - 1 = g.members.length := by omega
  rw [he, hfl, Int.toNat_natCast, Int.toNat_natCast] at k2
  have k2' : win (bytesOf o) e (4 + 4 * g.members.length) = [1, 0, 0, 0] ++ g.members.flatMap memB := k2
  have hw1 : win (bytesOf o) e 4 = [1, 0, 0, 0] := by
    have h1 := win_win (bytesOf o) e (4 + 4 * g.members.length) 0 4 (by omega)
    rw [Nat.add_zero, k2'] at h1
    rw [← h1]
    exact win_at' (a := []) (b := [1, 0, 0, 0]) (c := g.members.flatMap memB) rfl rfl rfl
  have hw2 : win (bytesOf o) (e + 4) (4 * g.members.length) = g.members.flatMap memB := by
    have h1 := win_win (bytesOf o) e (4 + 4 * g.members.length) 4 (4 * g.members.length) (by omega)
    rw [k2'] at h1
    rw [← h1]
    have hml : (g.members.flatMap memB).length = 4 * g.members.length := by
      have := hlen
      unfold groupBy at this
      rw [List.length_append] at this
      simp at this ⊢
      omega
    exact win_at' (a := [1, 0, 0, 0]) (b := g.members.flatMap memB) (c := []) (by simp) rfl hml
  have hgo := c.mbr_go hw g3 (hw.mems g hg) hw2 g.members.length 0 (by omega)
  rw [List.take_zero] at hgo
  have hone : Go.Proofs.YtmcegjkkgbnjlaaGreat.num [1, 0, 0, 0] = 1 := by decide
  unfold groupAt
  rw [htj, hfl, hm, htg, hz, he, Int.toNat_natCast, Int.toNat_natCast, hw1, hone, hdiv, hgo, hth]
  simp
theorem Cut.groups_go (c : Cut o S R G t0 y u v) (hw : Well o) : ∀ (gs : List GroupD) (ts : List Ten) (st : StD), (∀ g ∈ gs, g ∈ o.groups) → Al (bytesOf o) (gs.map (groupPart (symNo o))) ts →
    restGo (bytesOf o) (headL o) (numGo 0 (headL o)) ((symNo o : Nat) : Int) ts st = some { st with groups := st.groups ++ gs }
  | [], _, st, _, .nil => by
    show some st = _
    rw [List.append_nil]
  | g :: gs, _, st, hm, .cons (t := t) (ts := ts) hT hr => by
    have htb : t.b = 17 := hT.b
    unfold restGo stepB
    rw [htb, c.group hw (hm g (List.mem_cons_self ..)) hT]
    show restGo (bytesOf o) (headL o) (numGo 0 (headL o)) ((symNo o : Nat) : Int) ts { st with groups := st.groups ++ [g] } = _
    rw [c.groups_go hw gs ts _ (fun x hx => hm x (List.mem_cons_of_mem _ hx)) hr]
    simp

/-! ## Sig -/
theorem listA_sig : ∀ l : List Int, (∀ x ∈ l, fitsB x = true) → (listA (sigBy l)).map (fun r => r.map fun (n : Nat) => (n : Int)) = some l
  | [], _ => rfl
  | x :: r, h => by
    have hx := (fitsB_iff _).1 (h x (List.mem_cons_self ..))
    have ih := listA_sig r fun y hy => h y (List.mem_cons_of_mem _ hy)
    have e : digs5 (ulebB 5 x.toNat ++ sigBy r) = some (x.toNat, (ulebB 5 x.toNat).length) := by
      have hlt : x.toNat < 128 ^ 5 := by omega
      have hle : x.toNat ≤ 2147483647 := by omega
      simp [digs5, digs_ulebB 5 x.toNat (sigBy r) hlt (by omega), hle]
    have e2 : sigBy (x :: r) = ulebB 5 x.toNat ++ sigBy r := by unfold sigBy; rw [List.flatMap_cons]
    rw [e2, listA_some e, List.drop_left]
    cases hl : listA (sigBy r) with
    | none => rw [hl] at ih; cases ih
    | some q =>
      rw [hl] at ih
      simp only [Option.map_some, Option.some.injEq] at ih ⊢
      rw [List.map_cons, ih]
      congr 1
      omega
theorem Cut.sig_go (_c : Cut o S R G t0 y u v) (hw : Well o) {ts : List Ten} {st : StD} (h0 : st.hasSig = false) (h1 : st.sig = []) (hal : Al (bytesOf o) (bif o.hasSig then [sigPart (symNo o) o.sig] else []) ts) :
    restGo (bytesOf o) (headL o) (numGo 0 (headL o)) ((symNo o : Nat) : Int) ts st = some { st with hasSig := o.hasSig, sig := o.sig } := by
  obtain ⟨a, b, hs, sg, nm⟩ := st
  simp only at h0 h1
  subst h0
  subst h1
  cases ho : o.hasSig with
  | false =>
    rw [ho] at hal
    have : Al (bytesOf o) [] ts := hal
    cases this
    rw [hw.sig ho]
    rfl
  | true =>
    rw [ho] at hal
    have : Al (bytesOf o) [sigPart (symNo o) o.sig] ts := hal
    cases this with
    | cons hT hr =>
      rename_i t ts
      cases hr
      obtain ⟨k1, k2, k3, k4⟩ := hT.told (by show (1879002115 : Int) ≠ 8; decide)
      have htb : t.b = 1879002115 := hT.b
      have htg : t.g = ((symNo o : Nat) : Int) := hT.g
      have k2' : win (bytesOf o) t.e.toNat t.f.toNat = sigBy o.sig := k2
      have hsg : sigGo (bytesOf o) false ((symNo o : Nat) : Int) t = some o.sig := by
        unfold sigGo
        rw [htg, k2', show (false || (((symNo o : Nat) : Int) != ((symNo o : Nat) : Int))) = false by simp, cond_false]
        exact listA_sig o.sig hw.lays.sigs
      unfold restGo stepB
      rw [htb]
      show (match (sigGo (bytesOf o) false ((symNo o : Nat) : Int) t).map (fun xs => ({ secs := a, groups := b, hasSig := true, sig := xs, nm := nm } : StD)) with | none => none | some st' => restGo (bytesOf o) (headL o) (numGo 0 (headL o)) ((symNo o : Nat) : Int) [] st') = _
      rw [hsg]
      rfl
end

/-! ## The whole -/
theorem read_back {o : ObjD} (hw : Well o) : readB (bytesOf o) = some o := by
  obtain ⟨S, R, G, t0, y, u, v, c⟩ := cut_of o
  obtain ⟨hys, hla⟩ := c.syms hw
  obtain ⟨nm, n1, n2, n3⟩ := c.rels_go hw o.secs.length R (Nat.le_refl _) c.R
  rw [upto_all] at n3
  have hG := c.G
  unfold groupPs at hG
  obtain ⟨G1, G2, hGe, hG1, hG2⟩ := hG.split
  have g1 : restGo (bytesOf o) (headL o) (numGo 0 (headL o)) ((symNo o : Nat) : Int) G1 ⟨o.secs, [], false, [], nm⟩ = some ⟨o.secs, o.groups, false, [], nm⟩ := c.groups_go hw o.groups G1 ⟨o.secs, [], false, [], nm⟩ (fun _ h => h) hG1
  have g2 : restGo (bytesOf o) (headL o) (numGo 0 (headL o)) ((symNo o : Nat) : Int) G2 ⟨o.secs, o.groups, false, [], nm⟩ = some ⟨o.secs, o.groups, o.hasSig, o.sig, nm⟩ := c.sig_go hw (st := ⟨o.secs, o.groups, false, [], nm⟩) rfl rfl hG2
  have hskip : restGo (bytesOf o) (headL o) (numGo 0 (headL o)) ((symNo o : Nat) : Int) (t0 :: S) ⟨o.secs.map bare, [], false, [], List.replicate (headL o).length false⟩ = some ⟨o.secs.map bare, [], false, [], List.replicate (headL o).length false⟩ := rest_skip _ _ fun t ht => by
    rcases List.mem_cons.1 ht with rfl | ht
    · rw [c.t0]; decide
    · rcases c.sty hw t ht with h | h <;> rw [h] <;> decide
  have hend : ∀ st : StD, restGo (bytesOf o) (headL o) (numGo 0 (headL o)) ((symNo o : Nat) : Int) [y, u, v] st = some st := fun st => rest_skip _ _ fun t ht => by
    simp only [List.mem_cons, List.not_mem_nil, or_false] at ht
    rcases ht with rfl | rfl | rfl
    · rw [c.yty]; decide
    · rw [c.uty]; decide
    · rw [c.vty]; decide
  have hall : restGo (bytesOf o) (headL o) (numGo 0 (headL o)) ((symNo o : Nat) : Int) (headL o) ⟨o.secs.map bare, [], false, [], List.replicate (headL o).length false⟩ = some ⟨o.secs, o.groups, o.hasSig, o.sig, nm⟩ := by
    have e : headL o = (t0 :: S) ++ (R ++ (G1 ++ (G2 ++ [y, u, v]))) := by rw [c.all, hGe]; simp
    conv => lhs; arg 5; rw [e]
    rw [rest_append _ _ _ _ hskip, rest_append _ _ _ _ n3, rest_append _ _ _ _ g1, rest_append _ _ _ _ g2, hend]
  unfold readB
  rw [fil_got hw]
  simp only [c.secs hw, hys, hla, hall]
end Go.Proofs.YtmcegjkkgbnjlaaGreat

namespace Go.Proofs.YtmcegjkkgbnjlaaGreat
open Go.RowKit

theorem kind_more {ty fl al en sz : Int} {dl rl : Nat} {z : Bool} (h : kindB ty fl al en sz dl rl z = true) : (ty = 1 ∨ ty = 8) ∧ (ty = 8 → dl = 0) ∧ alignB al = true ∧ (ty = 1 → sz ≤ 16384) := by
  unfold kindB at h
  simp only [Bool.cond_eq_ite] at h
  split at h
  · cases h
  · rename_i h1
    split at h
    · cases h
    · rename_i h2
      split at h
      · cases h
      · rename_i h3
        split at h
        · cases h
        · rename_i h4
          simp at h1 h2 h3 h4
          refine ⟨?_, fun h8 => (h3 h8).1.1.1.1, ?_, fun h1' => (h2 h1').2⟩
          · by_cases hq : ty = 1
            · exact .inl hq
            · exact .inr (h4 hq)
          · exact h1.1.2
theorem align_pos {n : Int} (h : alignB n = true) : 1 ≤ n := by
  unfold alignB at h
  rw [List.any_eq_true] at h
  obtain ⟨i, _, hi⟩ := h
  have : n = 2 ^ i := by simpa using hi
  have h2 : (0 : Int) < 2 ^ i := Int.pow_pos (by decide)
  omega
theorem well_of {o : ObjD} (hm : mayO o = true) (hs : SmallD o) (hb : AddBd o) : Well o := by
  unfold mayO at hm
  rw [Bool.and_eq_true] at hm
  obtain ⟨h, hsz⟩ := hm
  have hl := shape_lays h hs hb
  unfold shapeB at h
  simp only [Bool.and_eq_true] at h
  obtain ⟨⟨⟨⟨hh, hg⟩, hq⟩, hy⟩, hx⟩ := h
  have hsec : ∀ s ∈ o.secs, (kindS s = true ∧ relsB o.syms.length s.data.length s.rels = true) ∧ ((hasF s.flags 128 = true → 1 ≤ s.link ∧ s.link ≤ (o.secs.length : Int)) ∧ (hasF s.flags 128 = false → s.link = 0)) := fun s hms => by
    obtain ⟨k, hk⟩ := List.getElem?_of_mem hms
    have h1 := eachB_yes hq hk
    unfold secOK at h1
    simp only [Bool.cond_eq_ite] at h1
    split at h1
    · cases h1
    · rename_i h2
      simp only [Bool.or_eq_true, Bool.not_eq_true', not_or, Bool.not_eq_false] at h2
      split at h1
      · cases h1
      · rename_i h3
        refine ⟨⟨h2.1.2, h2.2⟩, fun ho => ?_, fun ho => ?_⟩
        · rw [ho] at h3
          simp at h3
          omega
        · rw [ho] at h3
          simp at h3
          exact h3
  have hkind : ∀ s ∈ o.secs, (s.type = 1 ∨ s.type = 8) ∧ (s.type = 8 → s.data.length = 0) ∧ alignB s.align = true ∧ (s.type = 1 → s.size ≤ 16384) := fun s hms => kind_more (hsec s hms).1.1
  refine ⟨hl, fun s hms => (hkind s hms).1, fun s hms h8 => List.length_eq_zero_iff.1 ((hkind s hms).2.1 h8), fun s hms => align_pos (hkind s hms).2.2.1, fun s hms => (hsec s hms).2.1, fun s hms => (hsec s hms).2.2, fun s hms hne => ?_, fun g hmg m hmm => ?_, fun s hms => ?_, fun h0 => ?_, of_decide_eq_true hsz⟩
  · rcases (hkind s hms).1 with h1 | h8
    · exact h1
    · exfalso
      have hd := (hkind s hms).2.1 h8
      obtain ⟨r, hr⟩ := List.exists_mem_of_ne_nil _ hne
      obtain ⟨i, hi⟩ := List.getElem?_of_mem hr
      have hrb := (hsec s hms).1.2
      unfold relsB at hrb
      rw [Bool.and_eq_true] at hrb
      have h5 := List.all_eq_true.1 hrb.2 i (List.mem_range.2 (List.getElem?_eq_some_iff.1 hi).1)
      rw [relAtB_of hi, Bool.and_eq_true] at h5
      have h6 := h5.1
      unfold relOK at h6
      simp only [Bool.and_eq_true, decide_eq_true_eq] at h6
      obtain ⟨⟨f1, _, f3⟩, _, h7⟩ := h6
      have f1' := (fitsB_iff _).1 f1
      have f3' : 0 < widthI r.type := f3
      have f1'' : 0 ≤ r.off := f1'.1
      omega
  · obtain ⟨k, hk⟩ := List.getElem?_of_mem hmg
    have h1 := eachB_yes (f := fun _ => grpOK o.secs.length o.syms.length) hg hk
    unfold grpOK at h1
    simp only [Bool.and_eq_true, decide_eq_true_eq] at h1
    obtain ⟨j, hj⟩ := List.getElem?_of_mem hmm
    have h2 := eachB_yes h1.2 hj
    unfold memOK at h2
    simp only [Bool.and_eq_true, decide_eq_true_eq] at h2
    exact h2.1
  · obtain ⟨k, hk⟩ := List.getElem?_of_mem hms
    have h1 := eachB_yes hy hk
    unfold symOK at h1
    match k, h1 with
    | 0, h1 =>
      simp only [sym0B, Bool.and_eq_true, beq_iff_eq] at h1
      obtain ⟨⟨⟨⟨⟨_, _⟩, _⟩, s0⟩, _⟩, _⟩ := h1
      omega
    | j + 1, h1 =>
      have hj : j < o.syms.length := by have := (List.getElem?_eq_some_iff.1 hk).1; omega
      simp only [List.getElem?_eq_getElem hj] at h1
      unfold symNB at h1
      simp only [Bool.cond_eq_ite] at h1
      split at h1
      · cases h1
      · split at h1
        · cases h1
        · rename_i h3
          simp at h3
          omega
  · unfold headOK at hh
    rw [h0] at hh
    simp at hh
    exact hh.2
theorem got_back {o : ObjD} (hm : mayO o = true) (hs : SmallD o) (hb : AddBd o) : gotB (bytesOf o) = some o := by
  unfold gotB
  rw [read_back (well_of hm hs hb)]
  unfold mayO at hm
  rw [Bool.and_eq_true] at hm
  simp only [hm.1, cond_true]

/-! ## An object that is got has few of everything -/
theorem count_len : ∀ (q : Nat) (M : List Int), (∀ m ∈ M, 1 ≤ m ∧ m ≤ (q : Int)) → (∀ n, M.count n ≤ 1) → M.length ≤ q
  | 0, M, h, _ => by
    cases M with
    | nil => exact Nat.le_refl _
    | cons x r => have := h x (List.mem_cons_self ..); omega
  | q + 1, M, h, hc => by
    have ih := count_len q (M.filter fun m => !(m == ((q + 1 : Nat) : Int))) (fun m hm => by
      obtain ⟨h1, h2⟩ := List.mem_filter.1 hm
      have := h m h1
      have h3 : m ≠ ((q + 1 : Nat) : Int) := by simpa using h2
      omega) (fun n => Nat.le_trans (List.Sublist.count_le n List.filter_sublist) (hc n))
    have h1 := List.length_eq_countP_add_countP (fun m => m == ((q + 1 : Nat) : Int)) (l := M)
    have h2 := hc ((q + 1 : Nat) : Int)
    rw [List.count] at h2
    have h3 : M.countP (fun m => decide ¬(m == ((q + 1 : Nat) : Int)) = true) = (M.filter fun m => !(m == ((q + 1 : Nat) : Int))).length := by
      rw [List.countP_eq_length_filter]
      congr 1
      refine List.filter_congr fun m _ => ?_
      cases hb : (m == ((q + 1 : Nat) : Int)) <;> simp
    omega
theorem sum_len : ∀ (gs : List GroupD), (∀ g ∈ gs, 0 < g.members.length) → gs.length ≤ (gs.flatMap GroupD.members).length ∧ ∀ g ∈ gs, g.members.length ≤ (gs.flatMap GroupD.members).length
  | [], _ => ⟨Nat.le_refl _, fun _ h => by cases h⟩
  | g :: gs, h => by
    obtain ⟨h1, h2⟩ := sum_len gs fun x hx => h x (List.mem_cons_of_mem _ hx)
    have h0 := h g (List.mem_cons_self ..)
    rw [List.flatMap_cons, List.length_append, List.length_cons]
    refine ⟨by omega, fun x hx => ?_⟩
    rcases List.mem_cons.1 hx with rfl | hx
    · omega
    · have := h2 x hx
      omega
theorem memberN_count : ∀ (gs : List GroupD) (n : Int), memberN gs n = (gs.flatMap GroupD.members).count n
  | [], _ => rfl
  | g :: gs, n => by
    rw [List.flatMap_cons, List.count_append, ← memberN_count gs n]
    unfold memberN
    simp
theorem shape_small {o : ObjD} (h : shapeB o = true) (hsg : o.sig.length ≤ 16384) : SmallD o := by
  unfold shapeB at h
  simp only [Bool.and_eq_true] at h
  obtain ⟨⟨⟨⟨hh, hg⟩, hq⟩, hy⟩, hx⟩ := h
  unfold headOK at hh
  simp only [Bool.and_eq_true, decide_eq_true_eq] at hh
  obtain ⟨⟨⟨hh1, hh2⟩, hh3⟩, _⟩ := hh
  have hgr : ∀ g ∈ o.groups, 0 < g.members.length ∧ ∀ m ∈ g.members, 1 ≤ m ∧ m ≤ (o.secs.length : Int) := fun g hmg => by
    obtain ⟨k, hk⟩ := List.getElem?_of_mem hmg
    have h1 := eachB_yes (f := fun _ => grpOK o.secs.length o.syms.length) hg hk
    unfold grpOK at h1
    simp only [Bool.and_eq_true, decide_eq_true_eq] at h1
    refine ⟨h1.1.2, fun m hmm => ?_⟩
    obtain ⟨j, hj⟩ := List.getElem?_of_mem hmm
    have h2 := eachB_yes h1.2 hj
    unfold memOK at h2
    simp only [Bool.and_eq_true, decide_eq_true_eq] at h2
    exact h2.1
  have hsec : ∀ (k : Nat) (s : SecD), o.secs[k]? = some s → kindS s = true ∧ relsB o.syms.length s.data.length s.rels = true ∧ memberN o.groups ((k : Int) + 1) ≤ 1 := fun k s hk => by
    have h1 := eachB_yes hq hk
    unfold secOK at h1
    simp only [Bool.cond_eq_ite] at h1
    split at h1
    · cases h1
    · rename_i h2
      simp only [Bool.or_eq_true, Bool.not_eq_true', not_or, Bool.not_eq_false] at h2
      split at h1
      · cases h1
      · refine ⟨h2.1.2, h2.2, ?_⟩
        simp only [Bool.or_eq_true, Bool.and_eq_true, beq_iff_eq] at h1
        rcases h1 with h1 | h1 <;> omega
  have hcount : ∀ n, (o.groups.flatMap GroupD.members).count n ≤ 1 := fun n => by
    by_cases hn : n ∈ o.groups.flatMap GroupD.members
    · obtain ⟨g, hmg, hmn⟩ := List.mem_flatMap.1 hn
      have hr := (hgr g hmg).2 n hmn
      have hk : o.secs[n.toNat - 1]? = some _ := List.getElem?_eq_getElem (show n.toNat - 1 < o.secs.length by omega)
      have := (hsec _ _ hk).2.2
      rw [show ((n.toNat - 1 : Nat) : Int) + 1 = n by omega, memberN_count] at this
      exact this
    · rw [List.count_eq_zero_of_not_mem hn]
      exact Nat.zero_le _
  have hM := count_len o.secs.length (o.groups.flatMap GroupD.members) (fun m hm => by
    obtain ⟨g, hmg, hmn⟩ := List.mem_flatMap.1 hm
    exact (hgr g hmg).2 m hmn) hcount
  obtain ⟨s1, s2⟩ := sum_len o.groups fun g hmg => (hgr g hmg).1
  refine ⟨by omega, by omega, by omega, hsg, fun s hms => ?_, fun g hmg => by have := s2 g hmg; omega⟩
  obtain ⟨k, hk⟩ := List.getElem?_of_mem hms
  obtain ⟨k1, k2, _⟩ := hsec k s hk
  obtain ⟨m1, m2, _, m4⟩ := kind_more k1
  have m5 := (kind_fit k1).2.2.2.2.2
  unfold relsB at k2
  rw [Bool.and_eq_true, decide_eq_true_eq] at k2
  refine ⟨?_, by omega⟩
  rcases m1 with h1 | h8
  · have := m4 h1
    have := m5 (by omega)
    omega
  · rw [m2 h8]
    omega
end Go.Proofs.YtmcegjkkgbnjlaaGreat

namespace Go.Proofs.YtmcegjkkgbnjlaaGreat
open Go.RowKit

/-- What Put gives: the object's bytes, in memory of its own; or none, and the error of an argument that may not be. -/
def GivesPut (o : ObjD) (w : World) (e : Ending) (w' : World) : Prop := Below w.heap.size w w' ∧
  ((mayO o = true ∧ ∃ v, e = .returned (.tuple #[v, .nilIface]) ∧ w'.ownsRow w.heap.size 5 1 v (bytesOf o).length ((bytesOf o).map u8v)) ∨ (mayO o = false ∧ e = .returned (.tuple #[.slice none 0 0, .iface 36 (.int .i64 1)])))
set_option maxRecDepth 100000 in
set_option maxHeartbeats 4000000 in
theorem ownPut_any (o : ObjD) (v0 v1 v2 v4 : Value) (w : World) (hp : ObjParts w v0 v1 v2 v4 o) (hs : SmallD o) :
    Calls Tryz.prog 8 #[objV v0 v1 v2 o.hasSig v4] w (GivesPut o w) := by
  have hb1 : Below w.heap.size w (w.alloc (.cells #[v0, v1, v2, .bool o.hasSig, v4] 27)) := (Below.refl _ w).alloc (Nat.le_refl _) _
  have a0 : (w.alloc (.cells #[v0, v1, v2, .bool o.hasSig, v4] 27)).cell? ⟨w.heap.size, 0, none⟩ = some v0 := by simp
  have a1 : (w.alloc (.cells #[v0, v1, v2, .bool o.hasSig, v4] 27)).cell? ⟨w.heap.size, 1, none⟩ = some v1 := by simp
  have a2 : (w.alloc (.cells #[v0, v1, v2, .bool o.hasSig, v4] 27)).cell? ⟨w.heap.size, 2, none⟩ = some v2 := by simp
  have a3 : (w.alloc (.cells #[v0, v1, v2, .bool o.hasSig, v4] 27)).cell? ⟨w.heap.size, 3, none⟩ = some (.bool o.hasSig) := by simp
  have a4 : (w.alloc (.cells #[v0, v1, v2, .bool o.hasSig, v4] 27)).cell? ⟨w.heap.size, 4, none⟩ = some v4 := by simp
  have HM := Lib.hid (ownMade_any o v0 v1 v2 v4 _ (hp.below hb1) hs)
  have HB1 := Lib.hid hb1
  clear hp hs
  go_enter Tryz.func8, Tryz.ntmps8
  go_upto_region 1 with fail
  generalize w.alloc (.cells #[v0, v1, v2, .bool o.hasSig, v4] 27) = W1 at *
  go_wp2_with fail
  refine HM.out.mono ?_
  rintro e w2 ⟨hb2, ⟨hE, v, rfl, ho⟩ | ⟨hE, rfl⟩⟩
  · go_wp2_with fail
    exact bodyPost_ret (v := .tuple #[v, .nilIface]) (by simp [results, Tryz.results8, go_sem]) rfl ⟨HB1.out.trans (hb2.mono HB1.out.size), .inl ⟨hE, _, rfl, owns_lower ho HB1.out.size⟩⟩
  · go_wp2_with fail
    exact bodyPost_ret (v := .tuple #[.slice none 0 0, .iface 36 (.int .i64 1)]) (by simp [results, Tryz.results8, go_sem]) rfl ⟨HB1.out.trans (hb2.mono HB1.out.size), .inr ⟨hE, rfl⟩⟩
end Go.Proofs.YtmcegjkkgbnjlaaGreat

namespace Go.Proofs.YtmcegjkkgbnjlaaGreat
open Go.RowKit

def smallSec (s : SecD) : Prop := s.data.length ≤ 20000 ∧ s.rels.length ≤ 80
theorem all_take_succ {α : Type} {P : α → Prop} {l : List α} {i : Nat} {x : α} (h : ∀ y ∈ l.take i, P y) (hx : l[i]? = some x) (hp : P x) : ∀ y ∈ l.take (i + 1), P y := fun y hy => by
  rw [List.take_add_one, hx] at hy
  rcases List.mem_append.1 hy with hy | hy
  · exact h y hy
  · simp at hy
    subst hy
    exact hp
set_option maxRecDepth 100000 in
set_option maxHeartbeats 4000000 in
theorem small_any (o : ObjD) (v0 v1 v2 v4 : Value) (w : World) (hp : ObjParts w v0 v1 v2 v4 o) :
    Calls Tryz.prog 6 #[objV v0 v1 v2 o.hasSig v4] w fun e w' => (∃ r : Int, e = .returned (.int .i64 r) ∧ (r = 0 ∨ (r = 1 ∧ SmallD o))) ∧ Below w.heap.size w w' := by
  obtain ⟨hp0, hp1, hp2, hp4⟩ := hp
  obtain ⟨p0, c0, rfl, q01, q02, _, hqh⟩ := hp0
  obtain ⟨p1, c1, rfl, y01, y02, _, hyh⟩ := hp1
  obtain ⟨p2, c2, rfl, g01, g02, _, hgh⟩ := hp2
  obtain ⟨p4, c4, rfl, x01, x02, _, hxh⟩ := hp4
  have hb1 : Below w.heap.size w (w.alloc (.cells #[.slice p0 o.secs.length c0, .slice p1 o.syms.length c1, .slice p2 o.groups.length c2, .bool o.hasSig, .slice p4 o.sig.length c4] 27)) := (Below.refl _ w).alloc (Nat.le_refl _) _
  have hx1 := heap_alloc_new w (.cells #[.slice p0 o.secs.length c0, .slice p1 o.syms.length c1, .slice p2 o.groups.length c2, .bool o.hasSig, .slice p4 o.sig.length c4] 27)
  have hqm := Nat.le_trans q01 q02
  have hym := Nat.le_trans y01 y02
  have hgm := Nat.le_trans g01 g02
  have hxm := Nat.le_trans x01 x02
  have HQ := Lib.hid (hqh.below ESec.keeps hb1)
  have HG := Lib.hid (hgh.below EGroup.keeps hb1)
  unfold maxLen at hqm hym hgm hxm
  clear hqh hyh hgh hxh q01 q02 y01 y02 g01 g02 x01 x02
  have hend : o.secs.length ≤ 40 → o.syms.length ≤ 140 → o.groups.length ≤ 40 → o.sig.length ≤ 200 → (∀ s ∈ o.secs.take o.secs.length, smallSec s) → (∀ g ∈ o.groups.take o.groups.length, g.members.length ≤ 50) → SmallD o := fun a b c d e f => by
    rw [List.take_length] at e f
    exact ⟨a, b, c, by omega, e, f⟩
  have HE := Lib.hid hend
  clear hend
  generalize hql : o.secs.length = ql at *
  generalize hyl : o.syms.length = yl at *
  generalize hgln : o.groups.length = gl at *
  generalize hxl : o.sig.length = xl at *
  generalize o.hasSig = sg at *
  have HQL := Lib.hid hql
  have HGL := Lib.hid hgln
  clear hql hyl hgln hxl
  go_enter Tryz.func6, Tryz.ntmps6
  go_upto_region 1 with fail
  generalize w.alloc (.cells #[.slice p0 ql c0, .slice p1 yl c1, .slice p2 gl c2, .bool sg, .slice p4 xl c4] 27) = W1 at *
  obtain ⟨⟨a0, a1, a2, a3, a4⟩, _⟩ := cells5 _ _ _ _ _ _ _ _ hx1
  clear hx1
  have hbs := hb1.size
  generalize hgb : w.heap.size = gb at *
  go_cut [27] (fun s27 wx => ∃ c, s27 = .bool c ∧ (c = false → ql ≤ 40 ∧ yl ≤ 140 ∧ gl ≤ 40 ∧ xl ≤ 200) ∧ W1 = wx)
  case first =>
    by_cases t1 : 40 < ql
    · have t1d : decide ((40 : Int) < (ql : Int)) = true := decide_eq_true (by omega)
      go_wp2_with fail
      go_meet
      exact ⟨true, rfl, (fun h => by cases h), rfl⟩
    have t1d : decide ((40 : Int) < (ql : Int)) = false := decide_eq_false (by omega)
    by_cases t2 : 140 < yl
    · have t2d : decide ((140 : Int) < (yl : Int)) = true := decide_eq_true (by omega)
      go_wp2_with fail
      go_meet
      exact ⟨true, rfl, (fun h => by cases h), rfl⟩
    have t2d : decide ((140 : Int) < (yl : Int)) = false := decide_eq_false (by omega)
    by_cases t3 : 40 < gl
    · have t3d : decide ((40 : Int) < (gl : Int)) = true := decide_eq_true (by omega)
      go_wp2_with fail
      go_meet
      exact ⟨true, rfl, (fun h => by cases h), rfl⟩
    have t3d : decide ((40 : Int) < (gl : Int)) = false := decide_eq_false (by omega)
    by_cases t4 : 200 < xl
    · have t4d : decide ((200 : Int) < (xl : Int)) = true := decide_eq_true (by omega)
      go_wp2_with fail
      go_meet
      exact ⟨true, rfl, (fun h => by cases h), rfl⟩
    have t4d : decide ((200 : Int) < (xl : Int)) = false := decide_eq_false (by omega)
    go_wp2_with fail
    go_meet
    exact ⟨false, rfl, (fun _ => by omega), rfl⟩
  case rest =>
  obtain ⟨c, rfl, hc, rfl⟩ := hcut
  cases c with
  | true =>
    go_wp2_with fail
    go_ret
    subst hgb
    exact ⟨⟨0, rfl, .inl rfl⟩, hb1⟩
  | false =>
    obtain ⟨m1, m2, m3, m4⟩ := hc rfl
    have HE2 := Lib.hid (HE.out m1 m2 m3 m4)
    clear hc HE
    go_wp2_with fail
    go_loopw [3, 4] (fun r3 r4 wr => ∃ (i : Nat) (n : Nat), i ≤ ql ∧ r4 = .int .i64 (i : Int) ∧ r3 = .int .i64 (n : Int) ∧ n ≤ 20000 * i ∧ (∀ s ∈ o.secs.take i, smallSec s) ∧ W1 = wr) (fun _ r4 _ => ql - (intOf r4).toNat)
    case atStart => exact ⟨0, 0, Nat.zero_le _, rfl, rfl, Nat.zero_le _, (fun _ h => by simp at h), rfl⟩
    case round =>
      obtain ⟨i, n, hi, rfl, rfl, hn, hall, rfl⟩ := hrel
      have HALL := Lib.hid hall
      clear hall
      by_cases hlt : i < ql
      · obtain ⟨b, off, s, rfl, hs, ⟨_, _, _, _, _, _, _, ⟨v7, e7, q7, d7, rfl, h71, h72, _⟩, ⟨v8, e8, q8, d8, rfl, h81, h82, _⟩⟩⟩ := HQ.out.at_ (i := i) (by rw [HQL.out]; exact hlt)
        have HN := Lib.hid fun (h : smallSec s) => all_take_succ HALL.out hs h
        have hsd : smallSec s = (s.data.length ≤ 20000 ∧ s.rels.length ≤ 80) := rfl
        rw [hsd] at HN
        have hJ : (i : Int) < (ql : Int) := by omega
        have hJ0 : (0 : Int) ≤ (i : Int) := by omega
        clear hs hsd
        generalize s.data.length = dl at *
        generalize s.rels.length = rl at *
        unfold maxLen at h72 h82
        by_cases t1 : 20000 < dl
        · have t1d : decide ((20000 : Int) < (dl : Int)) = true := decide_eq_true (by omega)
          go_wp2_with fail
          go_ret
          subst hgb
          exact ⟨⟨0, rfl, .inl rfl⟩, hb1⟩
        have t1d : decide ((20000 : Int) < (dl : Int)) = false := decide_eq_false (by omega)
        by_cases t2 : 80 < rl
        · have t2d : decide ((80 : Int) < (rl : Int)) = true := decide_eq_true (by omega)
          go_wp2_with fail
          go_ret
          subst hgb
          exact ⟨⟨0, rfl, .inl rfl⟩, hb1⟩
        have t2d : decide ((80 : Int) < (rl : Int)) = false := decide_eq_false (by omega)
        have HN2 := Lib.hid (HN.out ⟨by omega, by omega⟩)
        go_wp2_with fail
        go_roundw
        case rel => exact ⟨i + 1, n + dl, hlt, by go_num, by go_num, by omega, HN2.out, by trivial⟩
        case measure => simp [intOf]; omega
      · have hJ : ¬ (i : Int) < (ql : Int) := by omega
        obtain rfl : i = ql := by omega
        have HE3 := Lib.hid (HE2.out HALL.out)
        clear HE2 HALL HQ
        go_wp2_with fail
        go_loopw [5] (fun r5 wr => ∃ (k : Nat), k ≤ gl ∧ r5 = .int .i64 (k : Int) ∧ (∀ g ∈ o.groups.take k, g.members.length ≤ 50) ∧ W1 = wr) (fun r5 _ => gl - (intOf r5).toNat)
        case atStart => exact ⟨0, Nat.zero_le _, rfl, (fun _ h => by simp at h), rfl⟩
        case round =>
          obtain ⟨k, hk, rfl, hall, rfl⟩ := hrel
          have HALL := Lib.hid hall
          clear hall
          by_cases hlt : k < gl
          · obtain ⟨b, off, g, rfl, hg, ⟨_, v7, e7, q7, d7, rfl, h71, h72, _⟩⟩ := HG.out.at_ (i := k) (by rw [HGL.out]; exact hlt)
            have HN := Lib.hid fun (h : g.members.length ≤ 50) => all_take_succ HALL.out hg h
            have hJ : (k : Int) < (gl : Int) := by omega
            have hJ0 : (0 : Int) ≤ (k : Int) := by omega
            clear hg
            generalize g.members.length = ml at *
            unfold maxLen at h72
            by_cases t1 : 50 < ml
            · have t1d : decide ((50 : Int) < (ml : Int)) = true := decide_eq_true (by omega)
              have t1e : (50 : Int) < (ml : Int) := by omega
              go_wp2_with fail
              go_ret
              subst hgb
              exact ⟨⟨0, rfl, .inl rfl⟩, hb1⟩
            have t1d : decide ((50 : Int) < (ml : Int)) = false := decide_eq_false (by omega)
            have t1e : ¬ (50 : Int) < (ml : Int) := by omega
            have HN2 := Lib.hid (HN.out (by omega))
            go_wp2_with fail
            go_roundw
            case rel => exact ⟨k + 1, hlt, by go_num, HN2.out, by trivial⟩
            case measure => simp [intOf]; omega
          · have hJ : ¬ (k : Int) < (gl : Int) := by omega
            obtain rfl : k = gl := by omega
            have HE4 := Lib.hid (HE3.out HALL.out)
            by_cases t1 : 40000 < n
            · have t1e : (40000 : Int) < (n : Int) := by omega
              go_wp2_with fail
              go_ret
              subst hgb
              exact ⟨⟨0, rfl, .inl rfl⟩, hb1⟩
            · have t1e : ¬ (40000 : Int) < (n : Int) := by omega
              go_wp2_with fail
              go_ret
              subst hgb
              exact ⟨⟨1, rfl, .inr ⟨rfl, HE4.out⟩⟩, hb1⟩
end Go.Proofs.YtmcegjkkgbnjlaaGreat
