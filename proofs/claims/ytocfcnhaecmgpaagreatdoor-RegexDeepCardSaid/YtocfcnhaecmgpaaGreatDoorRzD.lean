/-
  The statement RegexDeep as a walk: whatever number and text, the law answers true, and all of old memory stays as it was.
-/
import Derived.Test.YtocfcnhaecmgpaaGreatDoorRzB
import Derived.Test.YtocfcnhaecmgpaaGreatDoorRzC
import Derived.Test.YtocfcnhaecmgpaaGreatDoorRxR
import Derived.Test.YtocfcnhaecmgpaaGreatDoorShelf
namespace Go.Proofs.YtocfcnhaecmgpaaGreatDoor
open Go.RowKit Go.Extern.Stop Go.Stop Go.Extern Go.WideMaps

theorem opens_list (l : List UInt8) : ∀ (n k : Nat), l.length - k = n → opens ⟨l.toArray⟩ k = (l.drop k).count 40 := by
  have hz : (⟨l.toArray⟩ : ByteArray).size = l.length := by simp [ByteArray.size]
  intro n
  induction n with
  | zero =>
    intro k h
    rw [opens_end (by rw [hz]; omega), List.drop_eq_nil_of_le (by omega)]
    rfl
  | succ n ih =>
    intro k h
    have hk : k < l.length := by omega
    rw [opens_step (by rw [hz]; exact hk), ih (k + 1) (by omega), List.drop_eq_getElem_cons hk, List.count_cons, byteI_list, List.getElem?_eq_getElem hk]
    have e : (((some l[k]).map (fun b => (b.toNat : Int))).getD 0 = 40) = (l[k] = 40) := by
      apply propext
      constructor
      · intro h
        have h1 : (l[k].toNat : Int) = 40 := h
        exact UInt8.toNat_inj.1 (by show l[k].toNat = 40; omega)
      · intro h
        rw [h]
        rfl
    simp only [e]
    by_cases h40 : l[k] = 40
    · simp [h40]; omega
    · simp [h40]
theorem opens_count (s : ByteArray) : opens s 0 = Lib.countByte s.data.toList 40 := by
  have h := opens_list s.data.toList _ 0 rfl
  have e : (⟨s.data.toList.toArray⟩ : ByteArray) = s := by simp
  rw [e, List.drop_zero] at h
  exact h
theorem repeat_one (b : UInt8) : ∀ n : Nat, Lib.repeatL [b] n = List.replicate n b
  | 0 => rfl
  | n + 1 => by rw [Lib.repeatL, repeat_one b n]; rfl
theorem brB_cat (n : Nat) : (⟨(Lib.repeatL [40] n).toArray⟩ : ByteArray) ++ ⟨#[97]⟩ ++ ⟨(Lib.repeatL [41] n).toArray⟩ = brB n := by
  rw [repeat_one, repeat_one]
  unfold brB
  apply ByteArray.ext
  simp
def wrapB (s : ByteArray) : ByteArray := ⟨#[40]⟩ ++ s ++ ⟨#[41]⟩
theorem wrapB_list (l : List UInt8) : wrapB ⟨l.toArray⟩ = ⟨(40 :: (l ++ [41])).toArray⟩ := by
  unfold wrapB
  apply ByteArray.ext
  simp
theorem wrap_list (l : List UInt8) : Wrap ⟨l.toArray⟩ (wrapB ⟨l.toArray⟩) := by
  have hz : (⟨l.toArray⟩ : ByteArray).size = l.length := by simp [ByteArray.size]
  rw [wrapB_list]
  refine ⟨by simp [ByteArray.size], fun k hk => ?_, ?_, fun a b hab hb => ?_⟩
  · rw [hz] at hk
    rw [byteI_list, byteI_list, List.getElem?_cons_succ, List.getElem?_append_left hk]
  · rw [hz, byteI_list, List.getElem?_cons_succ, List.getElem?_append_right (Nat.le_refl _)]
    simp
  · rw [hz] at hb
    apply ByteArray.ext
    apply Array.ext
    · simp; omega
    · intro i h1 h2
      have hi : a + i < l.length := by simp at h2; omega
      simp only [ByteArray.data_extract, Array.getElem_extract, List.getElem_toArray]
      have hq : (40 :: (l ++ [41]))[a + 1 + i]? = l[a + i]? := by rw [show a + 1 + i = a + i + 1 by omega, List.getElem?_cons_succ, List.getElem?_append_left hi]
      rw [List.getElem?_eq_getElem (by simp; omega : a + 1 + i < (40 :: (l ++ [41])).length), List.getElem?_eq_getElem hi] at hq
      exact Option.some.inj hq
theorem wrap_any (s : ByteArray) : Wrap s (wrapB s) := by
  have h := wrap_list s.data.toList
  have e : (⟨s.data.toList.toArray⟩ : ByteArray) = s := by simp
  rwa [e] at h
theorem wrap_first (s : ByteArray) : byteI (wrapB s) 0 = 40 := by
  have e : (⟨s.data.toList.toArray⟩ : ByteArray) = s := by simp
  rw [← e, wrapB_list, byteI_list]
  rfl
/-- A text within one pair of brackets more. -/
theorem xpR_wrap {s : ByteArray} {k n : Nat} {x : Rx} (h : xpR s = .ok k n x) (ho : opens s 0 ≤ 60) : ∃ k' n', xpR (wrapB s) = .ok k' n' x := by
  unfold xpR at h
  split at h
  · cases h
  · rename_i k1 n1 x1 e1
    split at h
    · rename_i hend
      injection h with h1 h2 h3
      subst h1 h2 h3
      have hw := (wrap_any s).parse (wrap_first s) e1 hend (by omega)
      refine ⟨(wrapB s).size, n1, ?_⟩
      unfold xpR
      rw [hw.1]
      simp only
      rw [hw.2, if_pos rfl]
    · cases h
theorem xpR_br (n : Nat) : xpR (brB n) = if n ≤ 64 then .ok (n + 1 + n) 1 atomA else .er 8 64 := by
  have h := deep_go n n 64 0 (by omega)
  unfold xpR
  rw [h]
  by_cases hn : n ≤ 64
  · rw [if_pos hn]
    simp only
    have hs : skp (brB n) (n + 1 + n) = n + 1 + n := skp_stay (by rw [brB_end (by omega)]; decide)
    rw [hs, if_pos (by rw [brB_size]; omega)]
  · rw [if_neg hn]
theorem xpR_small {s : ByteArray} {k n : Nat} {x : Rx} (h : xpR s = .ok k n x) (hs : s.size ≤ 500) : rxWt x ≤ 1000 := by
  unfold xpR at h
  split at h
  · cases h
  · rename_i k1 n1 x1 e1
    split at h
    · injection h with h1 h2 h3
      subst h3
      exact alR_small e1 hs
    · cases h
theorem xpR_nz {s : ByteArray} (hs : s.size ≤ 100000) {c : Int} {a : Nat} (h : xpR s = .er c a) : c ≠ 0 := by
  unfold xpR at h
  split at h
  · rename_i c1 a1 e1
    injection h with h1 h2
    rw [← h1]
    exact (alt_spec s hs 64 0 rfl).2.2 0 0 _ _ (Nat.zero_le _) e1
  · split at h
    · cases h
    · injection h with h1 h2
      rw [← h1]
      decide

/-- What Parse answers, an expression's four cells and an error. -/
structure XpSt (B : Nat) (o : RO Rx) (k : Int) (t : Bool) (v2 v3 ev : Value) (w : World) : Prop where
  er : ∀ c a, o = .er c a → ∃ fb, ev = pf fb ∧ FaultAt w fb c a
  ok : ∀ k' n' x, o = .ok k' n' x → ev = .nilIface ∧ ExC (fun q => B ≤ q) w [.int .i64 k, .bool t, v2, v3] x
theorem XpSt.step {B : Nat} {o : RO Rx} {k : Int} {t : Bool} {v2 v3 ev : Value} {w w' : World} (h : XpSt B o k t v2 v3 ev w) (hb : Below w.heap.size w w') : XpSt B o k t v2 v3 ev w' :=
  ⟨fun c a e => by obtain ⟨fb, h1, h2⟩ := h.er c a e; exact ⟨fb, h1, h2.keep hb⟩, fun k' n' x e => by obtain ⟨h1, h2⟩ := h.ok k' n' x e; exact ⟨h1, h2.step hb⟩⟩
theorem xp_view {w w' : World} {o : RO Rx} {e : Ending} (h : XpOut w o e w') : ∃ k t a1 l1 c1 a2 l2 c2 ev, e = .returned (.tuple #[.agg #[.int .i64 k, .bool t, .slice a1 l1 c1, .slice a2 l2 c2], ev]) ∧ XpSt w.heap.size o k t (.slice a1 l1 c1) (.slice a2 l2 c2) ev w' ∧ Below w.heap.size w w' := by
  cases o with
  | er c a =>
    obtain ⟨fb, rfl, hf, hb⟩ := h
    exact ⟨0, false, none, 0, 0, none, 0, 0, pf fb, rfl, ⟨fun c' a' e => by injection e with e1 e2; subst e1 e2; exact ⟨fb, rfl, hf⟩, fun _ _ _ e => by cases e⟩, hb⟩
  | ok k' n' x =>
    obtain ⟨k, t, a1, l1, c1, a2, l2, c2, rfl, hv, hb⟩ := h
    exact ⟨k, t, a1, l1, c1, a2, l2, c2, .nilIface, rfl, ⟨fun _ _ e => by (cases e), fun _ _ _ e => by injection e with e1 e2 e3; subst e3; exact ⟨rfl, hv⟩⟩, hb⟩
end Go.Proofs.YtocfcnhaecmgpaaGreatDoor
