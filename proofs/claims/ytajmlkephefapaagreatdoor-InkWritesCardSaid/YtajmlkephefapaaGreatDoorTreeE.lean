/-
  Package tree by contracts, fourth part: a member's key, which is put into the set of those that are there.
-/
import Derived.Test.YtajmlkephefapaaGreatDoorTreeD
import Derived.Maps.OwnSet
import Derived.Maps.Range
import Derived.Maps.RangeWalk
namespace Go.Proofs.YtajmlkephefapaaGreatDoor
open Go.RowKit Go.Extern.Stop Go.Stop Go.Extern Go.WideMaps

/-! ### What stays -/

theorem ScanAt.keeps {D : Nat → Prop} {w w' : World} {b : Nat} {s : ByteArray} {j : Int} (h : ScanAt w b s j) (hk : Keeps D w w') (hD : ¬ D b) : ScanAt w' b s j := by
  have e := hk.block b h.1 hD
  exact ⟨Nat.lt_of_lt_of_le h.1 hk.size, (World.cell?_of_block (a := ⟨b, 0, none⟩) e).trans h.2.1, (World.cell?_of_block (a := ⟨b, 1, none⟩) e).trans h.2.2.1, fun i => (World.frozen?_of_block (a := ⟨b, i, none⟩) e).trans (h.2.2.2 i)⟩

/-- Within a call that may turn D: its own place, its result's place. -/
structure InK (D : Nat → Prop) (w0 : World) (s : ByteArray) (k : Nat) (w : World) : Prop where
  own : ScanAt w w0.heap.size s k
  res : ScanAt w (w0.heap.size + 1) ⟨#[]⟩ 0
  keeps : Keeps D w0 w
theorem InK.of {D : Nat → Prop} {w0 w : World} {s : ByteArray} {k : Nat} (h : InScan w0 s k w) : InK D w0 s k w := ⟨h.own, h.res, .of_below h.below⟩
theorem InK.mono {D D' : Nat → Prop} {w0 w : World} {s : ByteArray} {k : Nat} (h : InK D w0 s k w) (hD : ∀ k, D k → D' k) : InK D' w0 s k w := ⟨h.own, h.res, h.keeps.mono hD⟩
theorem InK.step {D : Nat → Prop} {w0 w w' : World} {s : ByteArray} {k : Nat} (h : InK D w0 s k w) (hb : Below w.heap.size w w') : InK D w0 s k w' := ⟨h.own.step hb, h.res.step hb, h.keeps.next hb⟩
theorem InK.turn {D : Nat → Prop} {w0 w w' : World} {s : ByteArray} {k : Nat} (h : InK D w0 s k w) (hk : Keeps D w w') (hD : ∀ k, D k → k < w0.heap.size) : InK D w0 s k w' :=
  ⟨h.own.keeps hk (fun e => Nat.lt_irrefl _ (hD _ e)), h.res.keeps hk (fun e => by have := hD _ e; omega), h.keeps.trans hk⟩
theorem InK.drew {D : Nat → Prop} {w0 w : World} {s : ByteArray} {k : Nat} (h : InK D w0 s k w) : InK D w0 s k w.drew := ⟨h.own, h.res, h.keeps.drew⟩
theorem InK.set {D : Nat → Prop} {w0 w : World} {s : ByteArray} {k : Nat} (h : InK D w0 s k w) (j : Nat) :
    InK D w0 s j ((w.setCell ⟨w0.heap.size, 0, none⟩ (.string s)).setCell ⟨w0.heap.size, 1, none⟩ (.int .i64 j)) :=
  ⟨h.own.set s j, h.res.farPut (by omega) s j, (h.keeps.setCell (.inl (Nat.le_refl _)) _).setCell (.inl (Nat.le_refl _)) _⟩
theorem InK.far {D : Nat → Prop} {w0 w : World} {s : ByteArray} {k : Nat} (h : InK D w0 s k w) {q : Addr} (hq : w0.heap.size + 1 < q.block) (v : Value) : InK D w0 s k (w.setCell q v) :=
  ⟨h.own.far (by omega) v, h.res.far (by omega) v, h.keeps.setCell (.inl (by omega)) v⟩
/-- The result's place is stored. -/
def resSet (w0 w : World) (s : ByteArray) (z : Int) : World := (w.setCell ⟨w0.heap.size + 1, 0, none⟩ (.string s)).setCell ⟨w0.heap.size + 1, 1, none⟩ (.int .i64 z)
theorem InK.out {D : Nat → Prop} {w0 w : World} {s : ByteArray} {k : Nat} (h : InK D w0 s k w) (z : Int) :
    (resSet w0 w s z).cell? ⟨w0.heap.size + 1, 0, none⟩ = some (.string s) ∧ (resSet w0 w s z).cell? ⟨w0.heap.size + 1, 1, none⟩ = some (.int .i64 z) ∧ Keeps D w0 (resSet w0 w s z) :=
  ⟨(h.res.put s z).1, (h.res.put s z).2, (h.keeps.setCell (.inl (by simp)) _).setCell (.inl (by simp)) _⟩

/-! ### The set of keys -/
theorem law9 : Maps.Keyed Tryz.prog 9 := Maps.string_keyed Tryz.underlying9
theorem zeroE (w : World) : (zeroValue 159).run Tryz.prog w = .ok (.agg #[]) w := by kernel_rfl
/-- A set in block b that holds just these keys. -/
def KsAt (w : World) (b n : Nat) (ks : List ByteArray) : Prop := ∃ D : DataW Unit, w.ownsMap Tryz.prog 9 unitElem b n D ∧ ∀ t : ByteArray, Maps.has D (.string t.data.toList) = hasKey ks t
theorem KsAt.lt {w : World} {b n : Nat} {ks : List ByteArray} (h : KsAt w b n ks) : b < w.heap.size := by obtain ⟨D, h, -⟩ := h; exact h.lt
theorem KsAt.keeps {D : Nat → Prop} {w w' : World} {b n : Nat} {ks : List ByteArray} (h : KsAt w b n ks) (hk : Keeps D w w') (hD : ¬ D b) : KsAt w' b n ks := by
  have hlt := h.lt
  obtain ⟨M, ⟨es, clock, hb, r⟩, hh⟩ := h
  exact ⟨M, ⟨es, clock, by rw [hk.block b hlt hD]; exact hb, r⟩, hh⟩
theorem KsAt.step {w w' : World} {b n : Nat} {ks : List ByteArray} (h : KsAt w b n ks) (hb : Below w.heap.size w w') : KsAt w' b n ks := h.keeps (D := fun _ => False) (.of_below hb) (fun e => e)
theorem KsAt.far {w : World} {b n : Nat} {ks : List ByteArray} (h : KsAt w b n ks) {q : Addr} (hq : b ≠ q.block) (v : Value) : KsAt (w.setCell q v) b n ks := by
  obtain ⟨M, hm, hh⟩ := h
  exact ⟨M, hm.setCell hq v, hh⟩
theorem KsAt.new (w : World) : KsAt (w.alloc (.map #[] 0)) w.heap.size 0 [] := ⟨_, World.ownsMap_made w _ _ _, fun t => rfl⟩
theorem has_put_key {D : DataW Unit} {ks : List ByteArray} (hD : Maps.IsMap D) (h : ∀ t : ByteArray, Maps.has D (.string t.data.toList) = hasKey ks t) (key : ByteArray) (d : DataW Unit) :
    ∀ t : ByteArray, Maps.has (D.put (.string key.data.toList) d) (.string t.data.toList) = hasKey (ks ++ [key]) t := by
  intro t
  by_cases e : t = key
  · subst e
    rw [Maps.has_put_same hD (k := .string t.data.toList) trivial]
    exact ((hasKey_iff _ _).2 (by simp)).symm
  · rw [Maps.has_put_other (by intro h; injection h with h; exact e (ByteArray.ext (Array.ext' h))), h t]
    unfold hasKey
    rw [List.any_append]
    simp [Ne.symm e]

/-! ### key -/
/-- What a key's reading answers. -/
def KeyOut (w : World) (s : ByteArray) (ks : List ByteArray) (mb n : Nat) : KOut → Ending → World → Prop
  | .ok q key, e, w' => ∃ r, r ≤ s.size ∧ sk s r = q ∧ e = .returned (.tuple #[.agg #[.string s, .int .i64 (r : Nat)], .string key, .nilIface]) ∧ KsAt w' mb (n + 1) (ks ++ [key]) ∧ Keeps (· = mb) w w'
  | .er c a, e, w' => ∃ (fb r : Nat) (t : ByteArray), r ≤ s.size ∧ e = .returned (.tuple #[.agg #[.string s, .int .i64 r], .string t, pf fb]) ∧ FaultAt w' fb c a ∧ Keeps (· = mb) w w'

theorem quoR_sz {s : ByteArray} (hs : s.size ≤ 100000) : ∀ (n k : Nat), s.size - k = n → (txtR s k).t.length ≤ s.size - k := by
  intro n
  induction n using Nat.strongRecOn with
  | ind n ih =>
    intro k hn
    by_cases h34 : byteI s k = 34
    · rw [txtR_end h34]; exact Nat.zero_le _
    · by_cases hc : (signR s k).c = 0
      · rw [txtR_go h34 hc]
        have h1 := signR_ok hc
        have := ih (s.size - (signR s k).k) (by omega) (signR s k).k rfl
        simp only [List.length_cons]
        omega
      · rw [txtR_er h34 hc]
        exact Nat.zero_le _
theorem quoR_len {s : ByteArray} (hs : s.size ≤ 100000) (k : Nat) : (⟨(quoR s k).t.toArray⟩ : ByteArray).size ≤ maxLen := by
  show (quoR s k).t.toArray.size ≤ maxLen
  unfold maxLen
  rw [List.size_toArray]
  unfold quoR
  split
  · have := quoR_sz hs _ (k + 1) rfl
    omega
  · exact Nat.zero_le _

set_option maxRecDepth 100000 in
set_option maxHeartbeats 2000000 in
theorem key_text (s : ByteArray) (p0 p : Nat) (c : Int) (a : Nat) (mb n : Nat) (ks : List ByteArray) (hs : s.size ≤ 100000) (hp0 : p0 ≤ s.size) (hp : sk s p0 = p) (hc : (quoR s p).c = c) (ha : (quoR s p).a = a) (h0 : c ≠ 0) (w : World) :
    Calls Tryz.prog 96 #[.agg #[.string s, .int .i64 p0], .map (some mb)] w (KeyOut w s ks mb n (.er c a)) := by
  have hpl : p ≤ s.size := by rw [← hp]; exact (sk_le s p0 hp0).2
  have hS := fun w => skip_any s p0 hs hp0 w
  rw [show runTo isBl s p0 = p from hp] at hS
  have HS := Lib.hid hS
  have HX : Hid (∀ w, Calls Tryz.prog 58 #[.agg #[.string s, .int .i64 p]] w fun e w' => ∃ fb j : Nat, j ≤ s.size ∧ e = .returned (.tuple #[.agg #[.string s, .int .i64 j], .string ⟨#[]⟩, pf fb]) ∧ FaultAt w' fb c a ∧ Below w.heap.size w w') := Lib.hid (fun w =>
    (text_any s p hs hpl w).mono (by
      rintro e w' (⟨h, -⟩ | ⟨-, fb, j, h1, h2, h3, h4⟩)
      · exact absurd (hc.symm.trans h) h0
      · rw [hc, ha] at h3; exact ⟨fb, j, h1, h2, h3, h4⟩))
  clear hS hc ha hp
  have H0 := Lib.hid (InK.of (D := (· = mb)) (InScan.new w s p0 58))
  go_enter Tryz.func96, Tryz.ntmps96
  go_wp2_with fail
  refine (HS.out _).mono ?_
  rintro e w1 ⟨rfl, b1⟩
  have H1 := Lib.hid ((H0.out.step b1).set p)
  obtain ⟨-, c0, c1, cf⟩ := (H0.out.step b1).own
  go_wp2_with fail
  generalize (w1.setCell ⟨w.heap.size, 0, none⟩ (.string s)).setCell ⟨w.heap.size, 1, none⟩ (.int .i64 p) = w2 at *
  refine (HX.out _).mono ?_
  rintro e w3 ⟨fb, j, hj, rfl, hf, b3⟩
  have H3 := Lib.hid (H1.out.step b3)
  have HF := Lib.hid hf
  clear hf
  obtain ⟨l3, d0, d1, -⟩ := H3.out.own
  obtain ⟨m3, r0, r1, rf⟩ := H3.out.res
  unfold pf
  go_wp2_with fail
  obtain ⟨q0, q1, hkp⟩ := H3.out.out p
  have hq := (HF.out.set H3.out.res s p).keep (sbelow_new _ (.cells #[.string s, .int .i64 j] 58))
  unfold resSet at q0 q1 hkp
  exact bodyPost_ret (v := .tuple #[.agg #[.string s, .int .i64 p], .string ⟨#[]⟩, pf fb]) (by simp [results, Tryz.results96, go_sem, q0, q1, m3, pf]) rfl ⟨fb, p, ⟨#[]⟩, hpl, rfl, hq, hkp.next (sbelow_new _ _)⟩

/-- .. where the text is read: it ends at j and tells key. -/
structure KeyRead (s : ByteArray) (p0 p j : Nat) (key : ByteArray) : Prop where
  le0 : p0 ≤ s.size
  skip : sk s p0 = p
  ok : (quoR s p).c = 0
  k : (quoR s p).k = j
  t : (⟨(quoR s p).t.toArray⟩ : ByteArray) = key
theorem KeyRead.text {s : ByteArray} {p0 p j : Nat} {key : ByteArray} (h : KeyRead s p0 p j key) (hs : s.size ≤ 100000) (w : World) :
    Calls Tryz.prog 58 #[.agg #[.string s, .int .i64 p]] w fun e w' => e = .returned (.tuple #[.agg #[.string s, .int .i64 j], .string key, .nilIface]) ∧ Below w.heap.size w w' := by
  have hpl : p ≤ s.size := by rw [← h.skip]; exact (sk_le s p0 h.le0).2
  refine (text_any s p hs hpl w).mono ?_
  rintro e w' (⟨-, rfl, hb⟩ | ⟨h1, -⟩)
  · rw [h.k, h.t]; exact ⟨rfl, hb⟩
  · exact absurd h.ok h1
theorem KeyRead.le {s : ByteArray} {p0 p j : Nat} {key : ByteArray} (h : KeyRead s p0 p j key) : j ≤ s.size := by rw [← h.k]; exact (quoR_ok h.ok).2

set_option maxRecDepth 100000 in
set_option maxHeartbeats 2000000 in
theorem key_twice (s : ByteArray) (p0 p j : Nat) (key : ByteArray) (mb n : Nat) (ks : List ByteArray) (hs : s.size ≤ 100000) (hr : KeyRead s p0 p j key) (hin : hasKey ks key = true) (w : World) (hm : KsAt w mb n ks) :
    Calls Tryz.prog 96 #[.agg #[.string s, .int .i64 p0], .map (some mb)] w (KeyOut w s ks mb n (.er 10 p)) := by
  have hpl : p ≤ s.size := by rw [← hr.skip]; exact (sk_le s p0 hr.le0).2
  have hS := fun w => skip_any s p0 hs hr.le0 w
  rw [show runTo isBl s p0 = p from hr.skip] at hS
  have HS := Lib.hid hS
  have HX := Lib.hid (fun w => hr.text hs w)
  have hkey : keyOf Tryz.prog 9 (.string key) = some (.string key.data.toList) := keyOf_string_mk Tryz.underlying9 (by rw [← hr.t]; exact quoR_len hs p)
  have hmlt := hm.lt
  clear hS
  have H0 := Lib.hid (InK.of (D := (· = mb)) (InScan.new w s p0 58))
  have hM0 := (hm.step (sbelow_new w (.cells #[.string s, .int .i64 p0] 58))).step (sbelow_new _ (.cells #[.string ⟨#[]⟩, .int .i64 0] 58))
  have HM0 := Lib.hid hM0
  clear hM0
  go_enter Tryz.func96, Tryz.ntmps96
  go_wp2_with fail
  refine (HS.out _).mono ?_
  rintro e w1 ⟨rfl, b1⟩
  have H1 := Lib.hid ((H0.out.step b1).set p)
  have HM1 := Lib.hid (((HM0.out.step b1).far (q := ⟨w.heap.size, 0, none⟩) (by show mb ≠ w.heap.size; omega) (.string s)).far (q := ⟨w.heap.size, 1, none⟩) (by show mb ≠ w.heap.size; omega) (.int .i64 p))
  obtain ⟨-, c0, c1, cf⟩ := (H0.out.step b1).own
  go_wp2_with fail
  generalize (w1.setCell ⟨w.heap.size, 0, none⟩ (.string s)).setCell ⟨w.heap.size, 1, none⟩ (.int .i64 p) = w2 at *
  refine (HX.out _).mono ?_
  rintro e w3 ⟨rfl, b3⟩
  have H3 := Lib.hid (H1.out.step b3)
  have HM3 := Lib.hid (HM1.out.step b3)
  have H4 := Lib.hid (H3.out.step (sbelow_new w3 (.cells #[.string s, .int .i64 j] 58)))
  have HM4 := Lib.hid (HM3.out.step (sbelow_new w3 (.cells #[.string s, .int .i64 j] 58)))
  obtain ⟨D, hown, hhas⟩ := HM4.out
  have HH := Lib.hid ((hhas key).trans hin)
  clear hhas
  have H5 := Lib.hid (H4.out.step (sbelow_new _ (.cells #[] 159)))
  obtain ⟨l3, d0, d1, -⟩ := H3.out.own
  obtain ⟨m3, r0, r1, rf⟩ := H3.out.res
  go_wp2_with (at_lookup; refine wpList_lookup_own_unit _ rfl _ _ 137 rfl 9 159 law9 Tryz.underlying137 (zeroE _) mb n _ rfl hown _ _ rfl hkey ?_; rw [HH.out])
  generalize (w3.alloc (.cells #[.string s, .int .i64 j] 58)).alloc (.cells #[] 159) = w5 at *
  clear d0 d1 r0 r1 rf
  have hI := H5.out.drew
  have k0 := hI.own.2.1
  have k1 := hI.own.2.2.1
  go_region_held3 (fun w' => w'.cell? ⟨w.heap.size, 0, none⟩ = some (.string s) ∧ w'.cell? ⟨w.heap.size, 1, none⟩ = some (.int .i64 p))
    (first | go_keep | exact ⟨hI.own.2.1, hI.own.2.2.1⟩)
    (first
    | (go_at_call 31; refine (at_any s p _).mono ?_; rintro e w' ⟨rfl, hb⟩; replace hI := hI.step hb)
    | (go_at_call 30; refine (new_err 10 p (by decide) _).mono ?_; rintro e w' ⟨fb, rfl, hv, hb⟩; replace hI := hI.step hb; have x0 := hI.res.2.1; have x1 := hI.res.2.2.1; have xf := hI.res.2.2.2))
  go_wp2
  obtain ⟨q0, q1, hkp⟩ := hI.out p
  have hq := hv.set hI.res s p
  unfold resSet at q0 q1 hkp
  exact bodyPost_ret (v := .tuple #[.agg #[.string s, .int .i64 p], .string ⟨#[]⟩, pf fb]) (by simp [results, Tryz.results96, go_sem, q0, q1, pf]) rfl ⟨fb, p, ⟨#[]⟩, hpl, rfl, hq, hkp⟩


set_option maxRecDepth 100000 in
set_option maxHeartbeats 2000000 in
theorem key_colon (s : ByteArray) (p0 p j : Nat) (key : ByteArray) (mb n : Nat) (ks : List ByteArray) (hs : s.size ≤ 100000) (hn : n ≤ 200000) (hr : KeyRead s p0 p j key) (hin : hasKey ks key = false) (hcol : byteI s (sk s j) = 58) (w : World) (hm : KsAt w mb n ks) :
    Calls Tryz.prog 96 #[.agg #[.string s, .int .i64 p0], .map (some mb)] w (KeyOut w s ks mb n (.ok (sk s (sk s j + 1)) key)) := by
  have hpl : p ≤ s.size := by rw [← hr.skip]; exact (sk_le s p0 hr.le0).2
  have hjl := hr.le
  have hs0 := sk_le s j hjl
  have hS := fun w => skip_any s p0 hs hr.le0 w
  rw [show runTo isBl s p0 = p from hr.skip] at hS
  have HS := Lib.hid hS
  have HX := Lib.hid (fun w => hr.text hs w)
  have hkey : keyOf Tryz.prog 9 (.string key) = some (.string key.data.toList) := keyOf_string_mk Tryz.underlying9 (by rw [← hr.t]; exact quoR_len hs p)
  have hS2 : ∀ w, Calls Tryz.prog 53 #[.agg #[.string s, .int .i64 j]] w fun e w' => e = .returned (.agg #[.string s, .int .i64 (sk s j)]) ∧ Below w.heap.size w w' := fun w => skip_any s j hs hjl w
  have hlt := byteI_pos (s := s) (k := sk s j) (by rw [hcol]; decide)
  have hT := fun w => take_is s (sk s j) hs hlt 58 hcol w
  generalize sk s j = m at *
  obtain ⟨m', hm'⟩ : ∃ m', m' = m + 1 := ⟨_, rfl⟩
  rw [← hm'] at hT ⊢
  have HM' : Hid (m' ≤ s.size) := Lib.hid (by omega)
  have HS2 := Lib.hid hS2
  have HT := Lib.hid hT
  have hmlt := hm.lt
  clear hS hS2 hT hm'
  have H0 := Lib.hid (InK.of (D := (· = mb)) (InScan.new w s p0 58))
  have hM0 := (hm.step (sbelow_new w (.cells #[.string s, .int .i64 p0] 58))).step (sbelow_new _ (.cells #[.string ⟨#[]⟩, .int .i64 0] 58))
  have HM0 := Lib.hid hM0
  clear hM0 hm
  go_enter Tryz.func96, Tryz.ntmps96
  go_wp2_with fail
  refine (HS.out _).mono ?_
  rintro e w1 ⟨rfl, b1⟩
  have H1 := Lib.hid ((H0.out.step b1).set p)
  have HM1 := Lib.hid (((HM0.out.step b1).far (q := ⟨w.heap.size, 0, none⟩) (by show mb ≠ w.heap.size; omega) (.string s)).far (q := ⟨w.heap.size, 1, none⟩) (by show mb ≠ w.heap.size; omega) (.int .i64 p))
  obtain ⟨-, c0, c1, cf⟩ := (H0.out.step b1).own
  go_wp2_with fail
  generalize (w1.setCell ⟨w.heap.size, 0, none⟩ (.string s)).setCell ⟨w.heap.size, 1, none⟩ (.int .i64 p) = w2 at *
  refine (HX.out _).mono ?_
  rintro e w3 ⟨rfl, b3⟩
  have H3 := Lib.hid (H1.out.step b3)
  have HM3 := Lib.hid (HM1.out.step b3)
  have hbn := sbelow_new w3 (.cells #[.string s, .int .i64 j] 58)
  have hbe := sbelow_new (w3.alloc (.cells #[.string s, .int .i64 j] 58)) (.cells #[] 159)
  have H5 := Lib.hid ((H3.out.step hbn).step hbe)
  have HN5 := Lib.hid ((ScanAt.new w3 s j 58).step hbe)
  obtain ⟨D, hown, hhas⟩ := (HM3.out.step hbn).step hbe
  have hown0 := (HM3.out.step hbn)
  have HH := Lib.hid ((hhas key).trans hin)
  have HHAS := Lib.hid hhas
  have HMP := Lib.hid hown.isMap
  obtain ⟨l3, d0, d1, -⟩ := H3.out.own
  obtain ⟨m3, r0, r1, rf⟩ := H3.out.res
  obtain ⟨D', hown', hhas'⟩ := hown0
  have HH' := Lib.hid ((hhas' key).trans hin)
  clear hhas hhas' hbn hbe
  go_wp2_with (first
    | (at_lookup; refine wpList_lookup_own_unit _ rfl _ _ 137 rfl 9 159 law9 Tryz.underlying137 (zeroE _) mb n _ rfl hown' _ _ rfl hkey ?_; rw [HH'.out])
    | (at_mapUpdate; refine wpList_mapUpdate_own _ rfl _ _ _ 137 rfl 9 159 law9 Tryz.underlying137 (unitElem (H := Unit)) mb n _ rfl hown (by unfold maxLen; omega) _ _ _ rfl rfl hkey _ [] unitElem_mk ?_))
  intro w6 hown6 hgrow6
  have HK6 : Hid (Keeps (· = mb) _ w6) := Lib.hid (Keeps.of_grown hgrow6 (fun k e => (by injection e with e; exact e.symm)))
  have HM6 : Hid (KsAt w6 mb (n + 1) (ks ++ [key])) := Lib.hid ⟨_, hown6, has_put_key HMP.out HHAS.out key _⟩
  have H6 := Lib.hid (H5.out.turn HK6.out (fun k e => by rw [e]; exact hmlt))
  have HN6 := Lib.hid (HN5.out.keeps HK6.out (fun e => by omega))
  clear hown6 hgrow6 hown hown'
  obtain ⟨n6, e0, e1, ef⟩ := HN6.out
  clear d0 d1 r0 r1 rf
  go_wp2_with fail
  refine (HS2.out _).mono ?_
  rintro e w7 ⟨rfl, b7⟩
  have H7 := Lib.hid (H6.out.step b7)
  have HM7 := Lib.hid (HM6.out.step b7)
  have HN7 := Lib.hid (HN6.out.step b7)
  go_wp2_with fail
  refine (HT.out _).mono ?_
  rintro e w8 ⟨rfl, b8⟩
  have H8 := Lib.hid (H7.out.step b8)
  have HM8 := Lib.hid (HM7.out.step b8)
  have HN8 := Lib.hid (HN7.out.step b8)
  obtain ⟨n8, g0, g1, gf⟩ := HN8.out
  have hq3 : w.heap.size + 1 < w3.heap.size := m3
  have H9 := Lib.hid ((H8.out.far (q := ⟨w3.heap.size, 0, none⟩) hq3 (.string s)).far (q := ⟨w3.heap.size, 1, none⟩) hq3 (.int .i64 m'))
  have HM9 := Lib.hid ((HM8.out.far (q := ⟨w3.heap.size, 0, none⟩) (by show mb ≠ w3.heap.size; omega) (.string s)).far (q := ⟨w3.heap.size, 1, none⟩) (by show mb ≠ w3.heap.size; omega) (.int .i64 m'))
  obtain ⟨-, r0, r1, rf⟩ := H8.out.res
  go_wp2_with fail
  obtain ⟨q0, q1, hkp⟩ := H9.out.out m'
  unfold resSet at q0 q1 hkp
  have hM10 := (HM9.out.far (q := ⟨w.heap.size + 1, 0, none⟩) (by show mb ≠ w.heap.size + 1; omega) (.string s)).far (q := ⟨w.heap.size + 1, 1, none⟩) (by show mb ≠ w.heap.size + 1; omega) (.int .i64 m')
  exact bodyPost_ret (v := .tuple #[.agg #[.string s, .int .i64 m'], .string key, .nilIface]) (by simp [results, Tryz.results96, go_sem, q0, q1]) rfl ⟨m', HM'.out, rfl, rfl, hM10, hkp⟩

set_option maxRecDepth 100000 in
set_option maxHeartbeats 2000000 in
theorem key_other (s : ByteArray) (p0 p j : Nat) (key : ByteArray) (mb n : Nat) (ks : List ByteArray) (hs : s.size ≤ 100000) (hn : n ≤ 200000) (hr : KeyRead s p0 p j key) (hin : hasKey ks key = false) (hcol : byteI s (sk s j) ≠ 58) (w : World) (hm : KsAt w mb n ks) :
    Calls Tryz.prog 96 #[.agg #[.string s, .int .i64 p0], .map (some mb)] w (KeyOut w s ks mb n (.er (missC s (sk s j)) (sk s j))) := by
  have hpl : p ≤ s.size := by rw [← hr.skip]; exact (sk_le s p0 hr.le0).2
  have hjl := hr.le
  have hs0 := sk_le s j hjl
  have hS := fun w => skip_any s p0 hs hr.le0 w
  rw [show runTo isBl s p0 = p from hr.skip] at hS
  have HS := Lib.hid hS
  have HX := Lib.hid (fun w => hr.text hs w)
  have hkey : keyOf Tryz.prog 9 (.string key) = some (.string key.data.toList) := keyOf_string_mk Tryz.underlying9 (by rw [← hr.t]; exact quoR_len hs p)
  have hS2 : ∀ w, Calls Tryz.prog 53 #[.agg #[.string s, .int .i64 j]] w fun e w' => e = .returned (.agg #[.string s, .int .i64 (sk s j)]) ∧ Below w.heap.size w w' := fun w => skip_any s j hs hjl w
  have HT := Lib.hid (fun w => take_not s (sk s j) hs hs0.2 58 (fun h => hcol h.1) w)
  generalize sk s j = m at *
  have HS2 := Lib.hid hS2
  have hmlt := hm.lt
  have HL := Lib.hid hs0.2
  clear hS hS2 hcol
  have H0 := Lib.hid (InK.of (D := (· = mb)) (InScan.new w s p0 58))
  have hM0 := (hm.step (sbelow_new w (.cells #[.string s, .int .i64 p0] 58))).step (sbelow_new _ (.cells #[.string ⟨#[]⟩, .int .i64 0] 58))
  have HM0 := Lib.hid hM0
  clear hM0 hm
  go_enter Tryz.func96, Tryz.ntmps96
  go_wp2_with fail
  refine (HS.out _).mono ?_
  rintro e w1 ⟨rfl, b1⟩
  have H1 := Lib.hid ((H0.out.step b1).set p)
  have HM1 := Lib.hid (((HM0.out.step b1).far (q := ⟨w.heap.size, 0, none⟩) (by show mb ≠ w.heap.size; omega) (.string s)).far (q := ⟨w.heap.size, 1, none⟩) (by show mb ≠ w.heap.size; omega) (.int .i64 p))
  obtain ⟨-, c0, c1, cf⟩ := (H0.out.step b1).own
  go_wp2_with fail
  generalize (w1.setCell ⟨w.heap.size, 0, none⟩ (.string s)).setCell ⟨w.heap.size, 1, none⟩ (.int .i64 p) = w2 at *
  refine (HX.out _).mono ?_
  rintro e w3 ⟨rfl, b3⟩
  have H3 := Lib.hid (H1.out.step b3)
  have HM3 := Lib.hid (HM1.out.step b3)
  have hbn := sbelow_new w3 (.cells #[.string s, .int .i64 j] 58)
  have hbe := sbelow_new (w3.alloc (.cells #[.string s, .int .i64 j] 58)) (.cells #[] 159)
  have H5 := Lib.hid ((H3.out.step hbn).step hbe)
  have HN5 := Lib.hid ((ScanAt.new w3 s j 58).step hbe)
  obtain ⟨D, hown, hhas⟩ := (HM3.out.step hbn).step hbe
  have hown0 := (HM3.out.step hbn)
  have HH := Lib.hid ((hhas key).trans hin)
  have HHAS := Lib.hid hhas
  have HMP := Lib.hid hown.isMap
  obtain ⟨l3, d0, d1, -⟩ := H3.out.own
  obtain ⟨m3, r0, r1, rf⟩ := H3.out.res
  obtain ⟨D', hown', hhas'⟩ := hown0
  have HH' := Lib.hid ((hhas' key).trans hin)
  clear hhas hhas' hbn hbe
  go_wp2_with (first
    | (at_lookup; refine wpList_lookup_own_unit _ rfl _ _ 137 rfl 9 159 law9 Tryz.underlying137 (zeroE _) mb n _ rfl hown' _ _ rfl hkey ?_; rw [HH'.out])
    | (at_mapUpdate; refine wpList_mapUpdate_own _ rfl _ _ _ 137 rfl 9 159 law9 Tryz.underlying137 (unitElem (H := Unit)) mb n _ rfl hown (by unfold maxLen; omega) _ _ _ rfl rfl hkey _ [] unitElem_mk ?_))
  intro w6 hown6 hgrow6
  have HK6 : Hid (Keeps (· = mb) _ w6) := Lib.hid (Keeps.of_grown hgrow6 (fun k e => (by injection e with e; exact e.symm)))
  have HM6 : Hid (KsAt w6 mb (n + 1) (ks ++ [key])) := Lib.hid ⟨_, hown6, has_put_key HMP.out HHAS.out key _⟩
  have H6 := Lib.hid (H5.out.turn HK6.out (fun k e => by rw [e]; exact hmlt))
  have HN6 := Lib.hid (HN5.out.keeps HK6.out (fun e => by omega))
  clear hown6 hgrow6 hown hown'
  obtain ⟨n6, e0, e1, ef⟩ := HN6.out
  clear d0 d1 r0 r1 rf
  go_wp2_with fail
  refine (HS2.out _).mono ?_
  rintro e w7 ⟨rfl, b7⟩
  have H7 := Lib.hid (H6.out.step b7)
  have HM7 := Lib.hid (HM6.out.step b7)
  have HN7 := Lib.hid (HN6.out.step b7)
  go_wp2_with fail
  refine (HT.out _).mono ?_
  rintro e w8 ⟨fb, rfl, hf, b8⟩
  have H8 := Lib.hid (H7.out.step b8)
  have HM8 := Lib.hid (HM7.out.step b8)
  have HN8 := Lib.hid (HN7.out.step b8)
  obtain ⟨n8, g0, g1, gf⟩ := HN8.out
  have hq3 : w.heap.size + 1 < w3.heap.size := m3
  have H9 := Lib.hid ((H8.out.far (q := ⟨w3.heap.size, 0, none⟩) hq3 (.string s)).far (q := ⟨w3.heap.size, 1, none⟩) hq3 (.int .i64 m))
  have HM9 := Lib.hid ((HM8.out.far (q := ⟨w3.heap.size, 0, none⟩) (by show mb ≠ w3.heap.size; omega) (.string s)).far (q := ⟨w3.heap.size, 1, none⟩) (by show mb ≠ w3.heap.size; omega) (.int .i64 m))
  obtain ⟨-, r0, r1, rf⟩ := H8.out.res
  have HF9 := Lib.hid (hf.set HN8.out s m)
  clear hf
  unfold pf
  go_wp2_with fail
  obtain ⟨q0, q1, hkp⟩ := H9.out.out m
  have hq := HF9.out.set H9.out.res s m
  unfold resSet at q0 q1 hkp
  exact bodyPost_ret (v := .tuple #[.agg #[.string s, .int .i64 m], .string key, pf fb]) (by simp [results, Tryz.results96, go_sem, q0, q1, pf]) rfl ⟨fb, m, key, HL.out, rfl, hq, hkp⟩

theorem key_any (s : ByteArray) (p0 : Nat) (mb n : Nat) (ks : List ByteArray) (hs : s.size ≤ 100000) (hp0 : p0 ≤ s.size) (hn : n ≤ 200000) (w : World) (hm : KsAt w mb n ks) :
    Calls Tryz.prog 96 #[.agg #[.string s, .int .i64 p0], .map (some mb)] w (KeyOut w s ks mb n (keyR s 123 (sk s p0) ks)) := by
  unfold keyR
  rw [if_neg (by decide)]
  by_cases hc : (quoR s (sk s p0)).c = 0
  · rw [if_neg (fun h => h hc)]
    by_cases hin : hasKey ks ⟨(quoR s (sk s p0)).t.toArray⟩ = true
    · rw [if_pos hin]
      exact key_twice s p0 _ _ _ mb n ks hs ⟨hp0, rfl, hc, rfl, rfl⟩ hin w hm
    · rw [if_neg hin]
      by_cases hcol : byteI s (sk s (quoR s (sk s p0)).k) = 58
      · rw [if_pos hcol]
        exact key_colon s p0 _ _ _ mb n ks hs hn ⟨hp0, rfl, hc, rfl, rfl⟩ (by simpa using hin) hcol w hm
      · rw [if_neg hcol]
        exact key_other s p0 _ _ _ mb n ks hs hn ⟨hp0, rfl, hc, rfl, rfl⟩ (by simpa using hin) hcol w hm
  · rw [if_pos hc]
    exact key_text s p0 _ _ _ mb n ks hs hp0 rfl rfl rfl hc w
end Go.Proofs.YtajmlkephefapaaGreatDoor
