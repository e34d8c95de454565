/-
  Has of one byte.
-/
import Derived.Test.YtpccdhkghlbhkaaGreatDoorScanF
namespace Go.Proofs.YtpccdhkghlbhkaaGreatDoor
open Go.RowKit Go.Extern.Stop Go.Stop Go.Extern

/-! ### One byte as a text -/
theorem hasPre_one {s : ByteArray} {k : Nat} (hk : k ≤ s.size) (b : UInt8) (hb : b.toNat ≠ 0) : hasPre (restOf s k) ⟨#[b]⟩ = decide (byteI s k = b.toNat) := by
  have hz : (⟨#[b]⟩ : ByteArray).size = 1 := rfl
  unfold hasPre
  rw [restOf_size s k hk, hz]
  by_cases hlt : k < s.size
  · rw [byteI_lt hlt, decide_eq_true (by omega : 1 ≤ s.size - k), Bool.true_and]
    have e : (restOf s k).extract 0 1 = ⟨#[s[k]]⟩ := by
      apply ByteArray.ext
      apply Array.ext
      · unfold restOf
        simp
        omega
      · intro i h1 h2
        have hi : i = 0 := by simp at h2; omega
        subst hi
        unfold restOf
        simp [ByteArray.getElem_eq_getElem_data]
    rw [e, Go.ByteArray.toList_eq, Go.ByteArray.toList_eq]
    rw [Bool.eq_iff_iff]
    simp
    constructor
    · intro h; rw [h]
    · intro h; exact UInt8.toNat_inj.1 (by omega)
  · rw [byteI_ge hlt, decide_eq_false (by omega : ¬ 1 ≤ s.size - k), Bool.false_and]
    rw [decide_eq_false (by omega)]
theorem hasK_one {s : ByteArray} {k : Nat} (hk : k ≤ s.size) (b : UInt8) (hb : b.toNat ≠ 0) : hasK s k ⟨#[b]⟩ = if byteI s k = b.toNat then k + 1 else k := by
  unfold hasK
  rw [hasPre_one hk b hb]
  by_cases h : byteI s k = b.toNat
  · rw [decide_eq_true h, if_pos h]; rfl
  · rw [decide_eq_false h, if_neg h]; rfl
/-- Has of one byte. -/
theorem has_one (s : ByteArray) (k : Nat) (b : UInt8) (hb : b.toNat ≠ 0) (hs : s.size ≤ 100000) (hk : k ≤ s.size) (w : World) :
    Calls Tryz.prog 13 #[.agg #[.string s, .int .i64 k], .string ⟨#[b]⟩] w fun e w' => e = .returned (.tuple #[.agg #[.string s, .int .i64 (if byteI s k = b.toNat then k + 1 else k : Nat)], .bool (decide (byteI s k = b.toNat))]) ∧ Below w.heap.size w w' := by
  have h := shas_any s k ⟨#[b]⟩ hs hk (by show 1 ≤ maxLen; unfold maxLen; omega) w
  rw [hasPre_one hk b hb, hasK_one hk b hb] at h
  exact h
end Go.Proofs.YtpccdhkghlbhkaaGreatDoor
