/-
  The statement NamesOrder as a walk: whatever the texts and the place of the cut, the law answers true, and all of old memory stays as it was.
-/
import Derived.Test.YtcnaffhdiodkhaaDoorNamesG
import Derived.Test.YtcnaffhdiodkhaaDoorNamesH
import Derived.Deep.RegionWith
namespace Go.Proofs.YtcnaffhdiodkhaaDoor
open Go.RowKit Go.Extern.Stop Go.Stop Go.Extern

/-- A slice of texts that came in: nil, empty, or at an address, with its capacity. -/
def TextArg (w : World) (v : Value) (l : List ByteArray) : Prop :=
  (v = .slice none 0 0 ∧ l = []) ∨ (∃ a c, v = .slice (some a) 0 c ∧ l = []) ∨ ∃ b o c, v = .slice (some ⟨b, o, none⟩) l.length c ∧ 0 < l.length ∧ l.length ≤ c ∧ b < w.heap.size ∧ TextsAt w ⟨b, o, none⟩ l
theorem add_at (b off j : Nat) : (⟨b, off, none⟩ : Addr).add j = ⟨b, off + j, none⟩ := Addr.add_lit b off j
theorem texts_take {w : World} {b off k : Nat} {l : List ByteArray} (h : TextsAt w ⟨b, off, none⟩ l) : TextsAt w ⟨b, off, none⟩ (l.take k) := fun j u hj => by
  refine h j u ?_
  rw [List.map_take, List.getElem?_take] at hj
  split at hj
  · exact hj
  · cases hj
theorem texts_drop {w : World} {b off k : Nat} {l : List ByteArray} (h : TextsAt w ⟨b, off, none⟩ l) : TextsAt w ⟨b, off + k, none⟩ (l.drop k) := fun j u hj => by
  rw [List.map_drop, List.getElem?_drop] at hj
  have := h (k + j) u hj
  rw [add_at] at this ⊢
  rw [Nat.add_assoc]
  exact this
theorem texts_strs {w : World} {b off c n : Nat} {l : List ByteArray} (hb : b < w.heap.size) (h : TextsAt w ⟨b, off, none⟩ l) (hn : n = l.length) : StrsAt w (.slice (some ⟨b, off, none⟩) n c) l := by
  subst hn
  refine .inr ⟨b, off, c, rfl, hb, fun i hi => ?_⟩
  rw [← add_at]
  refine h i _ ?_
  rw [List.getElem?_map, List.getElem?_eq_getElem hi, List.getD_eq_getElem?_getD, List.getElem?_eq_getElem hi]
  rfl

/-- What holds in the last test: both boxes, both rows, and that old memory stays. -/
structure OrdInv (w0 : World) (q p : Nat) (l : List ByteArray) (A B : Option Addr) (a b : Nat) (w : World) : Prop where
  n : BoxAt w q A l.length a
  m : BoxAt w p B l.length b
  rn : RowAt w (.slice A l.length a) l
  rm : RowAt w (.slice B l.length b) l
  below : Below w0.heap.size w0 w
theorem OrdInv.step {w0 w w' : World} {q p : Nat} {l : List ByteArray} {A B : Option Addr} {a b : Nat} (h : OrdInv w0 q p l A B a b w) (hb : Below w.heap.size w w') : OrdInv w0 q p l A B a b w' :=
  ⟨h.n.step hb, h.m.step hb, h.rn.keep hb, h.rm.keep hb, h.below.trans (hb.mono h.below.size)⟩
theorem OrdInv.drew {w0 w : World} {q p : Nat} {l : List ByteArray} {A B : Option Addr} {a b : Nat} (h : OrdInv w0 q p l A B a b w) : OrdInv w0 q p l A B a b w.drew := ⟨h.n, h.m, h.rn, h.rm, h.below.drew⟩

/-- A call that clones a row, told by its value. -/
theorem all_strs (l : List ByteArray) (v : Value) (w : World) (hv : RowAt w v l) (hlen : l.length ≤ 1000) :
    Calls Tryd.prog 37 #[.agg #[v]] w fun e w' => ∃ A c, e = .returned (.slice A l.length c) ∧ StrsAt w' (.slice A l.length c) l ∧ Below w.heap.size w w' := by
  refine (nall_any l v w hv hlen).mono ?_
  rintro e w' ⟨v', rfl, hown, hb, -⟩
  have hs := strs_own hown
  obtain ⟨b, o, c, rfl, -⟩ := hs.parts
  exact ⟨b, c, rfl, hs, hb⟩

set_option maxRecDepth 100000 in
set_option maxHeartbeats 3200000 in
theorem order_some (b off n cap k : Nat) (l : List ByteArray) (p : Int) (hp0 : 0 ≤ p) (hp1 : p ≤ 255) (w : World) (hg : Handle w) (hn : n ≤ 80) (hn0 : 0 < n) (hcap : n ≤ cap) (hzl : l.length = n) (hz : ∀ x ∈ l, x.size ≤ maxLen)
    (hk : p % ((n : Int) + 1) = k) (hkn : k ≤ n) (hkc : cap ≠ k) (hbs : b < w.heap.size) (hc : TextsAt w ⟨b, off, none⟩ l) :
    Calls Tryd.prog 8 #[.slice (some ⟨b, off, none⟩) n cap, .int .u8 p] w fun e w' => e = .returned (.bool true) ∧ Below w.heap.size w w' := by
  have hb : ¬ (80 : Int) < n := by omega
  have hk0 : (0 : Int) ≤ (k : Int) := by omega
  have hkn' : (k : Int) ≤ (n : Int) := by omega
  have hcap' : (n : Int) ≤ (cap : Int) := by omega
  have HC := Lib.hid hc
  have HL := Lib.hid hzl
  have hT := turned_perm l k
  have hpm := ofR_perm hT.symm
  have h64 := ofR_length l
  have HIFF := Lib.hid (show ((ofR l).2.1 = 0 ↔ (ofR (l.drop k ++ l.take k).reverse).2.1 = 0) ∧ Rises (ofR l).1 ∧ (ofR l).1.length ≤ 64 from ⟨hpm.1, hpm.2.2, h64⟩)
  have HOF1 := Lib.hid (fun v w' h => of_any l v w' h hz)
  have HOF2 := Lib.hid (fun v w' h => of_any (l.drop k ++ l.take k).reverse v w' h (fun x hx => hz x (hT.subset hx)))
  rw [hpm.2.1] at HOF2
  clear hc hzl hz hpm h64
  go_enter Tryd.func8, Tryd.ntmps8
  go_wp2_with fail
  refine (awake4_any _ hg).mono ?_
  rintro e w1 ⟨rfl, b1⟩
  have C1 := Lib.hid (HC.out.keep b1)
  have hbs1 : b < w1.heap.size := Nat.lt_of_lt_of_le hbs b1.size
  have hld : (l.drop k).length = n - k := by rw [List.length_drop, HL.out]
  have hlt : (l.take k).length = k := by rw [List.length_take, HL.out]; omega
  obtain ⟨W3, hW3⟩ : ∃ W3, W3 = (w1.alloc (.cells #[.slice (some ⟨b, off + k, none⟩) (n - k) (cap - k), .slice (some ⟨b, off, none⟩) k cap] 56)).drew := ⟨_, rfl⟩
  have b3 : Below w1.heap.size w1 W3 := by rw [hW3]; exact ((Below.refl _ _).alloc (Nat.le_refl _) _).drew
  have HCon : Hid (Calls Tryd.prog 33 #[.slice (some ⟨w1.heap.size, 0, none⟩) 2 2] W3 fun e w' => ∃ sl, e = .returned sl ∧ w'.ownsRow W3.heap.size 9 1 sl ((l.drop k).length + (l.take k).length) ((l.drop k ++ l.take k).map Value.string) ∧ Below W3.heap.size W3 w') := by
    refine concatS_some w1.heap.size ⟨b, off + k, none⟩ ⟨b, off, none⟩ (cap - k) cap (l.drop k) (l.take k) W3 ?_ ?_ ?_ (texts_drop (C1.out.keep b3)) (texts_take (C1.out.keep b3)) (by omega) (by omega)
    · rw [hW3]; simp
    · rw [hW3, hld]; simp
    · rw [hW3, hlt]; simp
  have SL : StrsAt w1 (.slice (some ⟨b, off, none⟩) n cap) l := texts_strs hbs1 C1.out HL.out.symm
  have HR := Lib.hid (fun sl w' h => reverseS_any W3.heap.size (l.drop k ++ l.take k) sl w' (by simp; have := HL.out; omega) h)
  have hlen : (l.drop k ++ l.take k).length = (l.drop k).length + (l.take k).length := by simp
  rw [hlen] at HR
  have HW3 := Lib.hid hW3
  clear hld hlt hlen hW3 hT
  go_wp2_with fail
  go_region_with (go_at_call 33; rw [← HW3.out]; refine HCon.out.mono ?_; rintro e w4 ⟨sl, rfl, hown, b4⟩)
  go_wp2_with fail
  refine (HR.out _ _ hown).mono ?_
  rintro e w5 ⟨rfl, hS5, b5⟩
  have B15 : Below w1.heap.size w1 w5 := b3.trans ((b4.trans b5).mono b3.size)
  have HB5 := Lib.hid (b1.trans (B15.mono b1.size))
  have HL5 := Lib.hid (SL.keep B15)
  have HS5 := Lib.hid hS5
  clear hown hS5 SL
  go_wp2_with fail
  refine (HOF1.out _ _ HL5.out).mono ?_
  rintro e w6 ⟨v6, u6, rfl, hrow6, hu6, b6⟩
  have HR6 := Lib.hid hrow6
  have HU6 := Lib.hid hu6
  clear hu6
  obtain ⟨A6, a6, rfl, -, -⟩ := hrow6
  have HB6 := Lib.hid (HB5.out.trans (b6.mono HB5.out.size))
  have HA7 := Lib.hid (below_new w6 (.cells #[.slice A6 (ofR l).1.length a6] 58))
  have HX7 := Lib.hid (BoxAt.new w6 A6 (ofR l).1.length a6 58)
  have HR7 := Lib.hid (HR6.out.keep HA7.out)
  have HS7 := Lib.hid ((HS5.out.keep b6).keep HA7.out)
  have HB7 := Lib.hid (HB6.out.trans (HA7.out.mono HB6.out.size))
  go_wp2_with fail
  generalize w6.alloc (.cells #[.slice A6 (ofR l).1.length a6] 58) = w7 at *
  generalize w6.heap.size = q at *
  clear HA7
  refine (HOF2.out _ _ HS7.out).mono ?_
  rintro e w8 ⟨v8, u8, rfl, hrow8, hu8, b8⟩
  have HR8 := Lib.hid hrow8
  have HU8 := Lib.hid hu8
  clear hu8
  obtain ⟨A8, a8, rfl, -, -⟩ := hrow8
  have HB8 := Lib.hid (HB7.out.trans (b8.mono HB7.out.size))
  have HX8 := Lib.hid (HX7.out.step b8)
  have HA9 := Lib.hid (below_new w8 (.cells #[.slice A8 (ofR l).1.length a8] 58))
  have HI9 := Lib.hid (show OrdInv w q w8.heap.size (ofR l).1 A6 A8 a6 a8 (w8.alloc (.cells #[.slice A8 (ofR l).1.length a8] 58)) from
    ⟨HX8.out.step HA9.out, BoxAt.new w8 A8 (ofR l).1.length a8 58, (HR7.out.keep b8).keep HA9.out, HR8.out.keep HA9.out, HB8.out.trans (HA9.out.mono HB8.out.size)⟩)
  go_wp2_with fail
  generalize w8.alloc (.cells #[.slice A8 (ofR l).1.length a8] 58) = w9 at *
  generalize w8.heap.size = p at *
  clear HA9
  obtain ⟨hiff, hrise, hlen64⟩ := HIFF.out
  have HRISE := Lib.hid hrise
  have HALL := Lib.hid (fun v w' h => all_strs (ofR l).1 v w' h (by omega))
  have HEQ := Lib.hid (fun v1 v2 w' h1 h2 => equalS_any v1 v2 (ofR l).1 (ofR l).1 w' h1 h2 (by omega))
  rw [decide_eq_true rfl] at HEQ
  have HSO := Lib.hid (fun v w' h => sortedS_any (ofR l).1 v w' h hrise (by omega))
  have hcase : (u6 = .nilIface ∧ u8 = .nilIface) ∨ ∃ f1 f2, u6 = .iface 104 (.pointer (some ⟨f1, 0, none⟩)) ∧ u8 = .iface 104 (.pointer (some ⟨f2, 0, none⟩)) := by
    by_cases h0 : (ofR l).2.1 = 0
    · have h1 := hiff.1 h0
      have k1 := HU6.out
      have k2 := HU8.out
      rw [h0] at k1
      rw [h1] at k2
      exact .inl ⟨k1.nil_of, k2.nil_of⟩
    · have h1 := fun h => h0 (hiff.2 h)
      obtain ⟨f1, e1⟩ := HU6.out.ptr h0
      obtain ⟨f2, e2⟩ := HU8.out.ptr h1
      exact .inr ⟨f1, f2, e1, e2⟩
  have hI := HI9.out.drew
  clear HU6 HU8 hiff hrise HOF1 HOF2 HCon HR
  generalize (ofR l).1 = r at *
  rcases hcase with ⟨rfl, rfl⟩ | ⟨f1, f2, rfl, rfl⟩
  all_goals
    have k0 := hI.n.2.1
    have k1 := hI.m.2.1
    go_region_held3 (fun w' => w'.cell? ⟨q, 0, none⟩ = some (.slice A6 r.length a6) ∧ w'.cell? ⟨p, 0, none⟩ = some (.slice A8 r.length a8))
      (first | go_keep | exact ⟨hI.n.2.1, hI.m.2.1⟩)
      (first
      | (go_at_call_of 37 (Value.agg #[Value.slice A6 r.length a6]); refine (HALL.out _ _ hI.rn).mono ?_; rintro e w' ⟨B6, c6, rfl, hs6, hb⟩; replace hI := hI.step hb; try (replace hs8 := hs8.keep hb))
      | (go_at_call_of 37 (Value.agg #[Value.slice A8 r.length a8]); refine (HALL.out _ _ hI.rm).mono ?_; rintro e w' ⟨B8, c8, rfl, hs8, hb⟩; replace hI := hI.step hb; try (replace hs6 := hs6.keep hb))
      | (go_at_call 36; refine (HEQ.out _ _ _ hs6 hs8).mono ?_; rintro e w' ⟨rfl, m, rfl⟩; replace hI := hI.step (below_drewN _ m))
      | (go_at_call 38; refine (HSO.out _ _ hs6).mono ?_; rintro e w' ⟨rfl, m, rfl⟩; replace hI := hI.step (below_drewN _ m)))
    go_wp2
    go_ret
    exact ⟨rfl, hI.below⟩

set_option maxRecDepth 100000 in
set_option maxHeartbeats 3200000 in
theorem order_edge (b off n : Nat) (l : List ByteArray) (p : Int) (hp0 : 0 ≤ p) (hp1 : p ≤ 255) (w : World) (hg : Handle w) (hn : n ≤ 80) (hn0 : 0 < n) (hzl : l.length = n) (hz : ∀ x ∈ l, x.size ≤ maxLen) (hk : p % ((n : Int) + 1) = n) (hbs : b < w.heap.size) (hc : TextsAt w ⟨b, off, none⟩ l) :
    Calls Tryd.prog 8 #[.slice (some ⟨b, off, none⟩) n n, .int .u8 p] w fun e w' => e = .returned (.bool true) ∧ Below w.heap.size w w' := by
  have hb : ¬ (80 : Int) < n := by omega
  have hk0 : (0 : Int) ≤ (n : Int) := by omega
  have HC := Lib.hid hc
  have HL := Lib.hid hzl
  have hpm := ofR_perm (List.reverse_perm l).symm
  have h64 := ofR_length l
  have HIFF := Lib.hid (show ((ofR l).2.1 = 0 ↔ (ofR l.reverse).2.1 = 0) ∧ Rises (ofR l).1 ∧ (ofR l).1.length ≤ 64 from ⟨hpm.1, hpm.2.2, h64⟩)
  have HOF1 := Lib.hid (fun v w' h => of_any l v w' h hz)
  have HOF2 := Lib.hid (fun v w' h => of_any l.reverse v w' h (fun x hx => hz x (by simpa using hx)))
  rw [hpm.2.1] at HOF2
  clear hc hzl hz hpm h64
  go_enter Tryd.func8, Tryd.ntmps8
  go_wp2_with fail
  refine (awake4_any _ hg).mono ?_
  rintro e w1 ⟨rfl, b1⟩
  have C1 := Lib.hid (HC.out.keep b1)
  have hbs1 : b < w1.heap.size := Nat.lt_of_lt_of_le hbs b1.size
  obtain ⟨W3, hW3⟩ : ∃ W3, W3 = (w1.alloc (.cells #[.slice (some ⟨b, off, none⟩) 0 0, .slice (some ⟨b, off, none⟩) n n] 56)).drew := ⟨_, rfl⟩
  have b3 : Below w1.heap.size w1 W3 := by rw [hW3]; exact ((Below.refl _ _).alloc (Nat.le_refl _) _).drew
  have HCon : Hid (Calls Tryd.prog 33 #[.slice (some ⟨w1.heap.size, 0, none⟩) 2 2] W3 fun e w' => ∃ sl, e = .returned sl ∧ w'.ownsRow W3.heap.size 9 1 sl l.length (WordsOf l) ∧ Below W3.heap.size W3 w') := by
    refine (concatS_some w1.heap.size ⟨b, off, none⟩ ⟨b, off, none⟩ 0 n [] l W3 ?_ ?_ ?_ (fun j u h => by simp at h) (C1.out.keep b3) (by simp) (by have := HL.out; omega)).mono ?_
    · rw [hW3]; simp
    · rw [hW3]; simp
    · rw [hW3, HL.out]; simp
    · rintro e w' ⟨sl, h1, h2, h3⟩
      exact ⟨sl, h1, by simpa [WordsOf] using h2, h3⟩
  have SL : StrsAt w1 (.slice (some ⟨b, off, none⟩) n n) l := texts_strs hbs1 C1.out HL.out.symm
  have HR := Lib.hid (fun sl w' h => reverseS_any W3.heap.size l sl w' (by have := HL.out; omega) h)
  have HW3 := Lib.hid hW3
  clear hW3
  go_wp2_with fail
  go_region_with (go_at_call 33; rw [← HW3.out]; refine HCon.out.mono ?_; rintro e w4 ⟨sl, rfl, hown, b4⟩)
  go_wp2_with fail
  refine (HR.out _ _ hown).mono ?_
  rintro e w5 ⟨rfl, hS5, b5⟩
  have B15 : Below w1.heap.size w1 w5 := b3.trans ((b4.trans b5).mono b3.size)
  have HB5 := Lib.hid (b1.trans (B15.mono b1.size))
  have HL5 := Lib.hid (SL.keep B15)
  have HS5 := Lib.hid hS5
  clear hown hS5 SL
  go_wp2_with fail
  refine (HOF1.out _ _ HL5.out).mono ?_
  rintro e w6 ⟨v6, u6, rfl, hrow6, hu6, b6⟩
  have HR6 := Lib.hid hrow6
  have HU6 := Lib.hid hu6
  clear hu6
  obtain ⟨A6, a6, rfl, -, -⟩ := hrow6
  have HB6 := Lib.hid (HB5.out.trans (b6.mono HB5.out.size))
  have HA7 := Lib.hid (below_new w6 (.cells #[.slice A6 (ofR l).1.length a6] 58))
  have HX7 := Lib.hid (BoxAt.new w6 A6 (ofR l).1.length a6 58)
  have HR7 := Lib.hid (HR6.out.keep HA7.out)
  have HS7 := Lib.hid ((HS5.out.keep b6).keep HA7.out)
  have HB7 := Lib.hid (HB6.out.trans (HA7.out.mono HB6.out.size))
  go_wp2_with fail
  generalize w6.alloc (.cells #[.slice A6 (ofR l).1.length a6] 58) = w7 at *
  generalize w6.heap.size = q at *
  clear HA7
  refine (HOF2.out _ _ HS7.out).mono ?_
  rintro e w8 ⟨v8, u8, rfl, hrow8, hu8, b8⟩
  have HR8 := Lib.hid hrow8
  have HU8 := Lib.hid hu8
  clear hu8
  obtain ⟨A8, a8, rfl, -, -⟩ := hrow8
  have HB8 := Lib.hid (HB7.out.trans (b8.mono HB7.out.size))
  have HX8 := Lib.hid (HX7.out.step b8)
  have HA9 := Lib.hid (below_new w8 (.cells #[.slice A8 (ofR l).1.length a8] 58))
  have HI9 := Lib.hid (show OrdInv w q w8.heap.size (ofR l).1 A6 A8 a6 a8 (w8.alloc (.cells #[.slice A8 (ofR l).1.length a8] 58)) from
    ⟨HX8.out.step HA9.out, BoxAt.new w8 A8 (ofR l).1.length a8 58, (HR7.out.keep b8).keep HA9.out, HR8.out.keep HA9.out, HB8.out.trans (HA9.out.mono HB8.out.size)⟩)
  go_wp2_with fail
  generalize w8.alloc (.cells #[.slice A8 (ofR l).1.length a8] 58) = w9 at *
  generalize w8.heap.size = p at *
  clear HA9
  obtain ⟨hiff, hrise, hlen64⟩ := HIFF.out
  have HRISE := Lib.hid hrise
  have HALL := Lib.hid (fun v w' h => all_strs (ofR l).1 v w' h (by omega))
  have HEQ := Lib.hid (fun v1 v2 w' h1 h2 => equalS_any v1 v2 (ofR l).1 (ofR l).1 w' h1 h2 (by omega))
  rw [decide_eq_true rfl] at HEQ
  have HSO := Lib.hid (fun v w' h => sortedS_any (ofR l).1 v w' h hrise (by omega))
  have hcase : (u6 = .nilIface ∧ u8 = .nilIface) ∨ ∃ f1 f2, u6 = .iface 104 (.pointer (some ⟨f1, 0, none⟩)) ∧ u8 = .iface 104 (.pointer (some ⟨f2, 0, none⟩)) := by
    by_cases h0 : (ofR l).2.1 = 0
    · have h1 := hiff.1 h0
      have k1 := HU6.out
      have k2 := HU8.out
      rw [h0] at k1
      rw [h1] at k2
      exact .inl ⟨k1.nil_of, k2.nil_of⟩
    · have h1 := fun h => h0 (hiff.2 h)
      obtain ⟨f1, e1⟩ := HU6.out.ptr h0
      obtain ⟨f2, e2⟩ := HU8.out.ptr h1
      exact .inr ⟨f1, f2, e1, e2⟩
  have hI := HI9.out.drew
  clear HU6 HU8 hiff hrise HOF1 HOF2 HCon HR
  generalize (ofR l).1 = r at *
  rcases hcase with ⟨rfl, rfl⟩ | ⟨f1, f2, rfl, rfl⟩
  all_goals
    have k0 := hI.n.2.1
    have k1 := hI.m.2.1
    go_region_held3 (fun w' => w'.cell? ⟨q, 0, none⟩ = some (.slice A6 r.length a6) ∧ w'.cell? ⟨p, 0, none⟩ = some (.slice A8 r.length a8))
      (first | go_keep | exact ⟨hI.n.2.1, hI.m.2.1⟩)
      (first
      | (go_at_call_of 37 (Value.agg #[Value.slice A6 r.length a6]); refine (HALL.out _ _ hI.rn).mono ?_; rintro e w' ⟨B6, c6, rfl, hs6, hb⟩; replace hI := hI.step hb; try (replace hs8 := hs8.keep hb))
      | (go_at_call_of 37 (Value.agg #[Value.slice A8 r.length a8]); refine (HALL.out _ _ hI.rm).mono ?_; rintro e w' ⟨B8, c8, rfl, hs8, hb⟩; replace hI := hI.step hb; try (replace hs6 := hs6.keep hb))
      | (go_at_call 36; refine (HEQ.out _ _ _ hs6 hs8).mono ?_; rintro e w' ⟨rfl, m, rfl⟩; replace hI := hI.step (below_drewN _ m))
      | (go_at_call 38; refine (HSO.out _ _ hs6).mono ?_; rintro e w' ⟨rfl, m, rfl⟩; replace hI := hI.step (below_drewN _ m)))
    go_wp2
    go_ret
    exact ⟨rfl, hI.below⟩

set_option maxRecDepth 100000 in
set_option maxHeartbeats 3200000 in
theorem order_zero (a : Addr) (cap : Nat) (p : Int) (hp0 : 0 ≤ p) (hp1 : p ≤ 255) (w : World) (hg : Handle w) :
    Calls Tryd.prog 8 #[.slice (some a) 0 cap, .int .u8 p] w fun e w' => e = .returned (.bool true) ∧ Below w.heap.size w w' := by
  have hz : ∀ x ∈ ([] : List ByteArray), x.size ≤ maxLen := by simp
  obtain ⟨l, hl⟩ : ∃ l : List ByteArray, l = [] := ⟨_, rfl⟩
  rw [← hl] at hz
  have hpm := ofR_perm (List.reverse_perm l).symm
  have h64 := ofR_length l
  have HIFF := Lib.hid (show ((ofR l).2.1 = 0 ↔ (ofR l.reverse).2.1 = 0) ∧ Rises (ofR l).1 ∧ (ofR l).1.length ≤ 64 from ⟨hpm.1, hpm.2.2, h64⟩)
  have HOF1 := Lib.hid (fun v w' h => of_any l v w' h hz)
  have HOF2 := Lib.hid (fun v w' h => of_any l.reverse v w' h (fun x hx => hz x (by simpa using hx)))
  rw [hpm.2.1] at HOF2
  have HLL := Lib.hid hl
  clear hz hpm h64 hl
  go_enter Tryd.func8, Tryd.ntmps8
  go_wp2_with fail
  refine (awake4_any _ hg).mono ?_
  rintro e w1 ⟨rfl, b1⟩
  obtain ⟨W3, hW3⟩ : ∃ W3, W3 = (w1.alloc (.cells #[.slice (some a) 0 cap, .slice (some a) 0 cap] 56)).drew := ⟨_, rfl⟩
  have b3 : Below w1.heap.size w1 W3 := by rw [hW3]; exact ((Below.refl _ _).alloc (Nat.le_refl _) _).drew
  have HCon : Hid (Calls Tryd.prog 33 #[.slice (some ⟨w1.heap.size, 0, none⟩) 2 2] W3 fun e w' => ∃ sl, e = .returned sl ∧ w'.ownsRow W3.heap.size 9 1 sl l.length (WordsOf l) ∧ Below W3.heap.size W3 w') := by
    refine (concatS_some w1.heap.size a a cap cap [] [] W3 ?_ ?_ ?_ (fun j u h => by simp at h) (fun j u h => by simp at h) (by simp) (by simp)).mono ?_
    · rw [hW3]; simp
    · rw [hW3]; simp
    · rw [hW3]; simp
    · rintro e w' ⟨sl, h1, h2, h3⟩
      exact ⟨sl, h1, by rw [HLL.out]; exact h2, h3⟩
  have SL : StrsAt w1 (.slice (some a) 0 cap) l := .inl ⟨_, _, rfl, HLL.out⟩
  have HR := Lib.hid (fun sl w' h => reverseS_any W3.heap.size l sl w' (by rw [HLL.out]; simp) h)
  have HW3 := Lib.hid hW3
  clear hW3
  go_wp2_with fail
  go_region_with (go_at_call 33; rw [← HW3.out]; refine HCon.out.mono ?_; rintro e w4 ⟨sl, rfl, hown, b4⟩)
  go_wp2_with fail
  refine (HR.out _ _ hown).mono ?_
  rintro e w5 ⟨rfl, hS5, b5⟩
  have B15 : Below w1.heap.size w1 w5 := b3.trans ((b4.trans b5).mono b3.size)
  have HB5 := Lib.hid (b1.trans (B15.mono b1.size))
  have HL5 := Lib.hid (SL.keep B15)
  have HS5 := Lib.hid hS5
  clear hown hS5 SL
  go_wp2_with fail
  refine (HOF1.out _ _ HL5.out).mono ?_
  rintro e w6 ⟨v6, u6, rfl, hrow6, hu6, b6⟩
  have HR6 := Lib.hid hrow6
  have HU6 := Lib.hid hu6
  clear hu6
  obtain ⟨A6, a6, rfl, -, -⟩ := hrow6
  have HB6 := Lib.hid (HB5.out.trans (b6.mono HB5.out.size))
  have HA7 := Lib.hid (below_new w6 (.cells #[.slice A6 (ofR l).1.length a6] 58))
  have HX7 := Lib.hid (BoxAt.new w6 A6 (ofR l).1.length a6 58)
  have HR7 := Lib.hid (HR6.out.keep HA7.out)
  have HS7 := Lib.hid ((HS5.out.keep b6).keep HA7.out)
  have HB7 := Lib.hid (HB6.out.trans (HA7.out.mono HB6.out.size))
  go_wp2_with fail
  generalize w6.alloc (.cells #[.slice A6 (ofR l).1.length a6] 58) = w7 at *
  generalize w6.heap.size = q at *
  clear HA7
  refine (HOF2.out _ _ HS7.out).mono ?_
  rintro e w8 ⟨v8, u8, rfl, hrow8, hu8, b8⟩
  have HR8 := Lib.hid hrow8
  have HU8 := Lib.hid hu8
  clear hu8
  obtain ⟨A8, a8, rfl, -, -⟩ := hrow8
  have HB8 := Lib.hid (HB7.out.trans (b8.mono HB7.out.size))
  have HX8 := Lib.hid (HX7.out.step b8)
  have HA9 := Lib.hid (below_new w8 (.cells #[.slice A8 (ofR l).1.length a8] 58))
  have HI9 := Lib.hid (show OrdInv w q w8.heap.size (ofR l).1 A6 A8 a6 a8 (w8.alloc (.cells #[.slice A8 (ofR l).1.length a8] 58)) from
    ⟨HX8.out.step HA9.out, BoxAt.new w8 A8 (ofR l).1.length a8 58, (HR7.out.keep b8).keep HA9.out, HR8.out.keep HA9.out, HB8.out.trans (HA9.out.mono HB8.out.size)⟩)
  go_wp2_with fail
  generalize w8.alloc (.cells #[.slice A8 (ofR l).1.length a8] 58) = w9 at *
  generalize w8.heap.size = p at *
  clear HA9
  obtain ⟨hiff, hrise, hlen64⟩ := HIFF.out
  have HRISE := Lib.hid hrise
  have HALL := Lib.hid (fun v w' h => all_strs (ofR l).1 v w' h (by omega))
  have HEQ := Lib.hid (fun v1 v2 w' h1 h2 => equalS_any v1 v2 (ofR l).1 (ofR l).1 w' h1 h2 (by omega))
  rw [decide_eq_true rfl] at HEQ
  have HSO := Lib.hid (fun v w' h => sortedS_any (ofR l).1 v w' h hrise (by omega))
  have hcase : (u6 = .nilIface ∧ u8 = .nilIface) ∨ ∃ f1 f2, u6 = .iface 104 (.pointer (some ⟨f1, 0, none⟩)) ∧ u8 = .iface 104 (.pointer (some ⟨f2, 0, none⟩)) := by
    by_cases h0 : (ofR l).2.1 = 0
    · have h1 := hiff.1 h0
      have k1 := HU6.out
      have k2 := HU8.out
      rw [h0] at k1
      rw [h1] at k2
      exact .inl ⟨k1.nil_of, k2.nil_of⟩
    · have h1 := fun h => h0 (hiff.2 h)
      obtain ⟨f1, e1⟩ := HU6.out.ptr h0
      obtain ⟨f2, e2⟩ := HU8.out.ptr h1
      exact .inr ⟨f1, f2, e1, e2⟩
  have hI := HI9.out.drew
  clear HU6 HU8 hiff hrise HOF1 HOF2 HCon HR
  generalize (ofR l).1 = r at *
  rcases hcase with ⟨rfl, rfl⟩ | ⟨f1, f2, rfl, rfl⟩
  all_goals
    have k0 := hI.n.2.1
    have k1 := hI.m.2.1
    go_region_held3 (fun w' => w'.cell? ⟨q, 0, none⟩ = some (.slice A6 r.length a6) ∧ w'.cell? ⟨p, 0, none⟩ = some (.slice A8 r.length a8))
      (first | go_keep | exact ⟨hI.n.2.1, hI.m.2.1⟩)
      (first
      | (go_at_call_of 37 (Value.agg #[Value.slice A6 r.length a6]); refine (HALL.out _ _ hI.rn).mono ?_; rintro e w' ⟨B6, c6, rfl, hs6, hb⟩; replace hI := hI.step hb; try (replace hs8 := hs8.keep hb))
      | (go_at_call_of 37 (Value.agg #[Value.slice A8 r.length a8]); refine (HALL.out _ _ hI.rm).mono ?_; rintro e w' ⟨B8, c8, rfl, hs8, hb⟩; replace hI := hI.step hb; try (replace hs6 := hs6.keep hb))
      | (go_at_call 36; refine (HEQ.out _ _ _ hs6 hs8).mono ?_; rintro e w' ⟨rfl, m, rfl⟩; replace hI := hI.step (below_drewN _ m))
      | (go_at_call 38; refine (HSO.out _ _ hs6).mono ?_; rintro e w' ⟨rfl, m, rfl⟩; replace hI := hI.step (below_drewN _ m)))
    go_wp2
    go_ret
    exact ⟨rfl, hI.below⟩

set_option maxRecDepth 100000 in
set_option maxHeartbeats 3200000 in
theorem order_nil  (p : Int) (hp0 : 0 ≤ p) (hp1 : p ≤ 255) (w : World) (hg : Handle w) :
    Calls Tryd.prog 8 #[.slice none 0 0, .int .u8 p] w fun e w' => e = .returned (.bool true) ∧ Below w.heap.size w w' := by
  have hz : ∀ x ∈ ([] : List ByteArray), x.size ≤ maxLen := by simp
  obtain ⟨l, hl⟩ : ∃ l : List ByteArray, l = [] := ⟨_, rfl⟩
  rw [← hl] at hz
  have hpm := ofR_perm (List.reverse_perm l).symm
  have h64 := ofR_length l
  have HIFF := Lib.hid (show ((ofR l).2.1 = 0 ↔ (ofR l.reverse).2.1 = 0) ∧ Rises (ofR l).1 ∧ (ofR l).1.length ≤ 64 from ⟨hpm.1, hpm.2.2, h64⟩)
  have HOF1 := Lib.hid (fun v w' h => of_any l v w' h hz)
  have HOF2 := Lib.hid (fun v w' h => of_any l.reverse v w' h (fun x hx => hz x (by simpa using hx)))
  rw [hpm.2.1] at HOF2
  have HLL := Lib.hid hl
  clear hz hpm h64 hl
  go_enter Tryd.func8, Tryd.ntmps8
  go_wp2_with fail
  refine (awake4_any _ hg).mono ?_
  rintro e w1 ⟨rfl, b1⟩
  obtain ⟨W3, hW3⟩ : ∃ W3, W3 = (w1.alloc (.cells #[.slice none 0 0, .slice none 0 0] 56)).drew := ⟨_, rfl⟩
  have b3 : Below w1.heap.size w1 W3 := by rw [hW3]; exact ((Below.refl _ _).alloc (Nat.le_refl _) _).drew
  have HCon : Hid (Calls Tryd.prog 33 #[.slice (some ⟨w1.heap.size, 0, none⟩) 2 2] W3 fun e w' => ∃ sl, e = .returned sl ∧ w'.ownsRow W3.heap.size 9 1 sl l.length (WordsOf l) ∧ Below W3.heap.size W3 w') := by
    refine (concatS_nil w1.heap.size W3 ?_ ?_ ?_).mono ?_
    · rw [hW3]; simp
    · rw [hW3]; simp
    · rw [hW3]; simp
    · rintro e w' ⟨sl, h1, h2, h3⟩
      exact ⟨sl, h1, by rw [HLL.out]; exact h2, h3⟩
  have SL : StrsAt w1 (.slice none 0 0) l := .inl ⟨_, _, rfl, HLL.out⟩
  have HR := Lib.hid (fun sl w' h => reverseS_any W3.heap.size l sl w' (by rw [HLL.out]; simp) h)
  have HW3 := Lib.hid hW3
  clear hW3
  go_wp2_with fail
  go_region_with (go_at_call 33; rw [← HW3.out]; refine HCon.out.mono ?_; rintro e w4 ⟨sl, rfl, hown, b4⟩)
  go_wp2_with fail
  refine (HR.out _ _ hown).mono ?_
  rintro e w5 ⟨rfl, hS5, b5⟩
  have B15 : Below w1.heap.size w1 w5 := b3.trans ((b4.trans b5).mono b3.size)
  have HB5 := Lib.hid (b1.trans (B15.mono b1.size))
  have HL5 := Lib.hid (SL.keep B15)
  have HS5 := Lib.hid hS5
  clear hown hS5 SL
  go_wp2_with fail
  refine (HOF1.out _ _ HL5.out).mono ?_
  rintro e w6 ⟨v6, u6, rfl, hrow6, hu6, b6⟩
  have HR6 := Lib.hid hrow6
  have HU6 := Lib.hid hu6
  clear hu6
  obtain ⟨A6, a6, rfl, -, -⟩ := hrow6
  have HB6 := Lib.hid (HB5.out.trans (b6.mono HB5.out.size))
  have HA7 := Lib.hid (below_new w6 (.cells #[.slice A6 (ofR l).1.length a6] 58))
  have HX7 := Lib.hid (BoxAt.new w6 A6 (ofR l).1.length a6 58)
  have HR7 := Lib.hid (HR6.out.keep HA7.out)
  have HS7 := Lib.hid ((HS5.out.keep b6).keep HA7.out)
  have HB7 := Lib.hid (HB6.out.trans (HA7.out.mono HB6.out.size))
  go_wp2_with fail
  generalize w6.alloc (.cells #[.slice A6 (ofR l).1.length a6] 58) = w7 at *
  generalize w6.heap.size = q at *
  clear HA7
  refine (HOF2.out _ _ HS7.out).mono ?_
  rintro e w8 ⟨v8, u8, rfl, hrow8, hu8, b8⟩
  have HR8 := Lib.hid hrow8
  have HU8 := Lib.hid hu8
  clear hu8
  obtain ⟨A8, a8, rfl, -, -⟩ := hrow8
  have HB8 := Lib.hid (HB7.out.trans (b8.mono HB7.out.size))
  have HX8 := Lib.hid (HX7.out.step b8)
  have HA9 := Lib.hid (below_new w8 (.cells #[.slice A8 (ofR l).1.length a8] 58))
  have HI9 := Lib.hid (show OrdInv w q w8.heap.size (ofR l).1 A6 A8 a6 a8 (w8.alloc (.cells #[.slice A8 (ofR l).1.length a8] 58)) from
    ⟨HX8.out.step HA9.out, BoxAt.new w8 A8 (ofR l).1.length a8 58, (HR7.out.keep b8).keep HA9.out, HR8.out.keep HA9.out, HB8.out.trans (HA9.out.mono HB8.out.size)⟩)
  go_wp2_with fail
  generalize w8.alloc (.cells #[.slice A8 (ofR l).1.length a8] 58) = w9 at *
  generalize w8.heap.size = p at *
  clear HA9
  obtain ⟨hiff, hrise, hlen64⟩ := HIFF.out
  have HRISE := Lib.hid hrise
  have HALL := Lib.hid (fun v w' h => all_strs (ofR l).1 v w' h (by omega))
  have HEQ := Lib.hid (fun v1 v2 w' h1 h2 => equalS_any v1 v2 (ofR l).1 (ofR l).1 w' h1 h2 (by omega))
  rw [decide_eq_true rfl] at HEQ
  have HSO := Lib.hid (fun v w' h => sortedS_any (ofR l).1 v w' h hrise (by omega))
  have hcase : (u6 = .nilIface ∧ u8 = .nilIface) ∨ ∃ f1 f2, u6 = .iface 104 (.pointer (some ⟨f1, 0, none⟩)) ∧ u8 = .iface 104 (.pointer (some ⟨f2, 0, none⟩)) := by
    by_cases h0 : (ofR l).2.1 = 0
    · have h1 := hiff.1 h0
      have k1 := HU6.out
      have k2 := HU8.out
      rw [h0] at k1
      rw [h1] at k2
      exact .inl ⟨k1.nil_of, k2.nil_of⟩
    · have h1 := fun h => h0 (hiff.2 h)
      obtain ⟨f1, e1⟩ := HU6.out.ptr h0
      obtain ⟨f2, e2⟩ := HU8.out.ptr h1
      exact .inr ⟨f1, f2, e1, e2⟩
  have hI := HI9.out.drew
  clear HU6 HU8 hiff hrise HOF1 HOF2 HCon HR
  generalize (ofR l).1 = r at *
  rcases hcase with ⟨rfl, rfl⟩ | ⟨f1, f2, rfl, rfl⟩
  all_goals
    have k0 := hI.n.2.1
    have k1 := hI.m.2.1
    go_region_held3 (fun w' => w'.cell? ⟨q, 0, none⟩ = some (.slice A6 r.length a6) ∧ w'.cell? ⟨p, 0, none⟩ = some (.slice A8 r.length a8))
      (first | go_keep | exact ⟨hI.n.2.1, hI.m.2.1⟩)
      (first
      | (go_at_call_of 37 (Value.agg #[Value.slice A6 r.length a6]); refine (HALL.out _ _ hI.rn).mono ?_; rintro e w' ⟨B6, c6, rfl, hs6, hb⟩; replace hI := hI.step hb; try (replace hs8 := hs8.keep hb))
      | (go_at_call_of 37 (Value.agg #[Value.slice A8 r.length a8]); refine (HALL.out _ _ hI.rm).mono ?_; rintro e w' ⟨B8, c8, rfl, hs8, hb⟩; replace hI := hI.step hb; try (replace hs6 := hs6.keep hb))
      | (go_at_call 36; refine (HEQ.out _ _ _ hs6 hs8).mono ?_; rintro e w' ⟨rfl, m, rfl⟩; replace hI := hI.step (below_drewN _ m))
      | (go_at_call 38; refine (HSO.out _ _ hs6).mono ?_; rintro e w' ⟨rfl, m, rfl⟩; replace hI := hI.step (below_drewN _ m)))
    go_wp2
    go_ret
    exact ⟨rfl, hI.below⟩

set_option maxHeartbeats 1000000 in
theorem order_far (a : Option Addr) (n c : Nat) (p : Int) (w : World) (h : 80 < n) (hg : Handle w) :
    Calls Tryd.prog 8 #[.slice a n c, .int .u8 p] w fun e w' => e = .returned (.bool true) ∧ Below w.heap.size w w' := by
  have hn : (80 : Int) < n := by omega
  go_enter Tryd.func8, Tryd.ntmps8
  go_wp2_with fail
  refine (awake4_any _ hg).mono ?_
  rintro e w1 ⟨rfl, b1⟩
  go_wp2_with fail
  go_ret
  exact ⟨rfl, b1⟩

theorem order_any (l : List ByteArray) (v : Value) (p : Int) (hp0 : 0 ≤ p) (hp1 : p ≤ 255) (w : World) (hg : Handle w) (hv : TextArg w v l) (hz : ∀ x ∈ l, x.size ≤ maxLen) :
    Calls Tryd.prog 8 #[v, .int .u8 p] w fun e w' => e = .returned (.bool true) ∧ Below w.heap.size w w' := by
  rcases hv with ⟨rfl, rfl⟩ | ⟨a, c, rfl, rfl⟩ | ⟨b, o, c, rfl, h0, hc, hb, ht⟩
  · exact order_nil p hp0 hp1 w hg
  · exact order_zero a c p hp0 hp1 w hg
  · by_cases h : 80 < l.length
    · exact order_far _ l.length c p w h hg
    · obtain ⟨k, hk⟩ : ∃ k : Nat, p % ((l.length : Int) + 1) = k := ⟨(p % ((l.length : Int) + 1)).toNat, by
        have := Int.emod_nonneg p (show ((l.length : Int) + 1) ≠ 0 by omega); omega⟩
      have hkn : k ≤ l.length := by
        have := Int.emod_lt_of_pos p (show 0 < ((l.length : Int) + 1) by omega); omega
      by_cases hkc : c = k
      · have e1 : c = l.length := by omega
        have e2 : k = l.length := by omega
        rw [e1]
        exact order_edge b o l.length l p hp0 hp1 w hg (by omega) h0 rfl hz (by rw [hk, e2]) hb ht
      · exact order_some b o l.length c k l p hp0 hp1 w hg (by omega) h0 hc rfl hz hk hkn hkc hb ht
end Go.Proofs.YtcnaffhdiodkhaaDoor
