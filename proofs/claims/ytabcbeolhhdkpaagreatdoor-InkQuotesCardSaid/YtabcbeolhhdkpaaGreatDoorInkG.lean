/-
  Package ink by contracts: a value written into a builder, by induction.
-/
import Derived.Test.YtabcbeolhhdkpaaGreatDoorInkF
namespace Go.Proofs.YtabcbeolhhdkpaaGreatDoor
open Go.RowKit Go.Extern.Stop Go.Stop Go.Extern

theorem inkJ_ge (obj : Bool) (keys : List ByteArray) (ts : List (List UInt8)) : ∀ i : Nat, i ≤ (inkJ obj keys ts i).length + 1
  | 0 => by omega
  | i + 1 => by
    have := inkJ_ge obj keys ts i
    rw [inkJ]
    by_cases h : i = 0
    · omega
    · rw [if_neg h]
      simp only [List.length_append, List.length_cons, List.length_nil]
      omega
set_option maxRecDepth 100000 in
set_option maxHeartbeats 16000000 in
theorem write_go (HDg : ∀ (u : Int) (W : World), 0 ≤ u → Tab W → Calls Tryz.prog 38 #[.int .u64 u] W fun e w' => e = .returned (.string ⟨(Lib.decDigits (capI u).toNat).toArray⟩) ∧ Below W.heap.size W w') : ∀ m, WrSpec m := by
  intro m
  induction m with
  | zero => intro x hx; exact absurd hx (Nat.not_lt_zero _)
  | succ m ih =>
    intro x hx hw B b l w k t u a c d a' c' d' z hv h hB hpw hT hle
    have HIH := Lib.hid ih
    clear ih
    cases hw with
    | mk k1 t1 n1 list keys z1 hkn htx hks hws hnn =>
      unfold ValC at hv
      obtain ⟨sl, sk', xs, e, hk, hl, hvs⟩ := hv
      simp only [List.cons.injEq, Value.int.injEq, Value.string.injEq, true_and, and_true] at e
      obtain ⟨rfl, rfl, rfl, rfl, rfl, rfl⟩ := e
      obtain ⟨a0, c0, es⟩ := hl.form
      injection es with ea el ec
      subst ea; subst el; subst ec
      obtain ⟨a1, c1, es⟩ := hk.form
      injection es with ea el ec
      subst ea; subst el; subst ec
      simp only [Val.mk.sizeOf_spec] at hx
      have H0 := Lib.hid (WvS.start h hB (.int .i64 k) (.string t) (.int .u64 u) (.slice a list.length d) (.slice a' keys.length d') (.int .i64 z))
      have HBy := Lib.hid (fun (l : List UInt8) (c : UInt8) (x : Int) (hx : x = (c.toNat : Int)) W h hl hB => byte_any B b l c x hx W h hl hB)
      have HSt := Lib.hid (fun l s W h hl hB => string_any B b l s W h hl hB)
      have HQu := Lib.hid (fun W => quote_any t htx W)
      obtain ⟨s0, s1, s2, s3, s4, s5⟩ := H0.out.six.cells
      unfold inkV at hle ⊢
      by_cases g0 : k = 0
      · subst g0
        rw [if_pos rfl] at hle ⊢
        clear hk hl hvs hkn hws hks
        go_enter Tryz.func23, Tryz.ntmps23
        go_wp2_with fail
        refine (HSt.out _ _ _ H0.out.bld (by simp only [List.length_append] at hle; have : (⟨#[110, 117, 108, 108]⟩ : ByteArray).size = 4 := rfl; omega) H0.out.size).mono ?_
        rintro e w2 ⟨rfl, h2, b2, o2⟩
        have HP := Lib.hid (H0.out.more h2 b2 o2).post
        clear h2 b2 o2
        go_wp2_with fail
        go_end0
        exact HP.out
      by_cases g1 : k = 1
      · subst g1
        rw [if_neg (by decide), if_pos rfl] at hle ⊢
        clear hk hl hvs hkn hws hks
        go_enter Tryz.func23, Tryz.ntmps23
        go_wp2_with fail
        refine (HSt.out _ _ _ H0.out.bld (by simp only [List.length_append] at hle; have : (⟨#[102, 97, 108, 115, 101]⟩ : ByteArray).size = 5 := rfl; omega) H0.out.size).mono ?_
        rintro e w2 ⟨rfl, h2, b2, o2⟩
        have HP := Lib.hid (H0.out.more h2 b2 o2).post
        clear h2 b2 o2
        go_wp2_with fail
        go_end0
        exact HP.out
      by_cases g2 : k = 2
      · subst g2
        rw [if_neg (by decide), if_neg (by decide), if_pos rfl] at hle ⊢
        clear hk hl hvs hkn hws hks
        go_enter Tryz.func23, Tryz.ntmps23
        go_wp2_with fail
        refine (HSt.out _ _ _ H0.out.bld (by simp only [List.length_append] at hle; have : (⟨#[116, 114, 117, 101]⟩ : ByteArray).size = 4 := rfl; omega) H0.out.size).mono ?_
        rintro e w2 ⟨rfl, h2, b2, o2⟩
        have HP := Lib.hid (H0.out.more h2 b2 o2).post
        clear h2 b2 o2
        go_wp2_with fail
        go_end0
        exact HP.out
      by_cases g3 : k = 3
      · subst g3
        rw [if_neg (by decide), if_neg (by decide), if_neg (by decide), if_pos rfl] at hle ⊢
        have HD := Lib.hid (fun W hW => HDg u W hnn hW)
        have HTab := Lib.hid (fun W (hW : Below B w W) => hT.keepB hW hpw)
        clear hk hl hvs hkn hws hks
        go_enter Tryz.func23, Tryz.ntmps23
        go_wp2_with fail
        refine (HD.out _ (HTab.out _ H0.out.below)).mono ?_
        rintro e w1 ⟨rfl, b1⟩
        have HS1 := Lib.hid (H0.out.next b1)
        clear b1 s0 s1 s2 s3 s4 s5
        go_wp2_with fail
        refine (HSt.out _ _ _ HS1.out.bld (by rw [sizeQ]; simp only [List.length_append] at hle; omega) HS1.out.size).mono ?_
        rintro e w2 ⟨rfl, h2, b2, o2⟩
        have HP : Hid (SgP B b (l ++ Lib.decDigits (capI u).toNat) w (.returned (.tuple #[])) w2) := Lib.hid (by have := (HS1.out.more h2 b2 o2).post; simpa using this)
        clear h2 b2 o2
        go_wp2_with fail
        go_end0
        exact HP.out
      by_cases g4 : k = 4
      · subst g4
        rw [if_neg (by decide), if_neg (by decide), if_neg (by decide), if_neg (by decide), if_pos rfl] at hle ⊢
        clear hk hl hvs hkn hws hks
        go_enter Tryz.func23, Tryz.ntmps23
        go_wp2_with fail
        refine (HQu.out _).mono ?_
        rintro e w1 ⟨rfl, b1⟩
        have HS1 := Lib.hid (H0.out.next b1)
        clear b1 s0 s1 s2 s3 s4 s5
        go_wp2_with fail
        refine (HSt.out _ _ _ HS1.out.bld (by rw [sizeQ]; simp only [List.length_append] at hle; omega) HS1.out.size).mono ?_
        rintro e w2 ⟨rfl, h2, b2, o2⟩
        have HP : Hid (SgP B b (l ++ quoL t.data.toList) w (.returned (.tuple #[])) w2) := Lib.hid (by have := (HS1.out.more h2 b2 o2).post; simpa using this)
        clear h2 b2 o2
        go_wp2_with fail
        go_end0
        exact HP.out
      by_cases g5 : k = 5
      · subst g5
        rw [if_neg (by decide), if_neg (by decide), if_neg (by decide), if_neg (by decide), if_neg (by decide), if_pos rfl, inkVs_len] at hle ⊢
        have hle' : l.length + (inkJ false keys (inkVs list) list.length).length + 2 ≤ 1000000 := by
          simp only [List.length_append, List.length_cons, List.length_nil] at hle
          omega
        have hll : list.length ≤ 1000000 := by
          have := inkJ_ge false keys (inkVs list) list.length
          omega
        have HL := Lib.hid hle'
        have HWr : Hid (∀ l' W, Below B w W → BldAt B b (Lib.byteCells l') W → (l' ++ inkJ false keys (inkVs list) list.length).length ≤ 1000000 →
            Calls Tryz.prog 39 #[.pointer (some ⟨b, 0, none⟩), .agg #[.int .i64 5, .string t, .int .u64 u, .slice a list.length d, .slice a' keys.length d', .int .i64 z]] W (SgP B b (l' ++ inkJ false keys (inkVs list) list.length) W)) :=
          Lib.hid fun l' W hW hb hl' => writeArr_any m HIH.out B b l' list keys xs W 5 t u a d a' d' z (by decide) (by omega) hws (hl.move hW.size fun q hP _ => ⟨hP, hW.block q hP⟩) (hvs.move hW.size fun q hP _ => ⟨hP, hW.block q hP⟩) hb (Nat.le_trans hB hW.size) hpw (hT.keepB hW hpw) hl' hll
        clear hk hl hvs hkn hws hks hle hle' hll
        go_enter Tryz.func23, Tryz.ntmps23
        go_wp2_with fail
        refine (HBy.out _ 91 91 rfl _ H0.out.bld (by have := HL.out; omega) H0.out.size).mono ?_
        rintro e w1 ⟨rfl, h1, b1, o1⟩
        have HS1 := Lib.hid (H0.out.more h1 b1 o1)
        clear h1 b1 o1 s0 s1 s2 s3 s4 s5
        obtain ⟨s0, s1, s2, s3, s4, s5⟩ := HS1.out.six.cells
        go_wp2_with fail
        refine (HWr.out _ _ HS1.out.below HS1.out.bld (by have := HL.out; simp only [List.length_append, List.length_cons, List.length_nil]; omega)).mono ?_
        rintro e w2 ⟨rfl, h2, b2, o2⟩
        have HS2 := Lib.hid (HS1.out.more h2 b2 o2)
        clear h2 b2 o2 s0 s1 s2 s3 s4 s5
        go_wp2_with fail
        refine (HBy.out _ 93 93 rfl _ HS2.out.bld (by have := HL.out; simp only [List.length_append, List.length_cons, List.length_nil]; omega) HS2.out.size).mono ?_
        rintro e w3 ⟨rfl, h3, b3, o3⟩
        have HP : Hid (SgP B b (l ++ 91 :: (inkJ false keys (inkVs list) list.length ++ [93])) w (.returned (.tuple #[])) w3) := Lib.hid (by have := (HS2.out.more h3 b3 o3).post; simpa using this)
        clear h3 b3 o3
        go_wp2_with fail
        go_end0
        exact HP.out
      by_cases g6 : k = 6
      · subst g6
        rw [if_neg (by decide), if_neg (by decide), if_neg (by decide), if_neg (by decide), if_neg (by decide), if_neg (by decide), if_pos rfl, inkVs_len] at hle ⊢
        have hle' : l.length + (inkJ true keys (inkVs list) list.length).length + 2 ≤ 1000000 := by
          simp only [List.length_append, List.length_cons, List.length_nil] at hle
          omega
        have hll : list.length ≤ 1000000 := by
          have := inkJ_ge true keys (inkVs list) list.length
          omega
        have HL := Lib.hid hle'
        have HWr : Hid (∀ l' W, Below B w W → BldAt B b (Lib.byteCells l') W → (l' ++ inkJ true keys (inkVs list) list.length).length ≤ 1000000 →
            Calls Tryz.prog 39 #[.pointer (some ⟨b, 0, none⟩), .agg #[.int .i64 6, .string t, .int .u64 u, .slice a list.length d, .slice a' keys.length d', .int .i64 z]] W (SgP B b (l' ++ inkJ true keys (inkVs list) list.length) W)) :=
          Lib.hid fun l' W hW hb hl' => writeObj_any m HIH.out B b l' list keys xs W 6 t u a d a' d' z rfl (by omega) hws (hkn rfl) hks (hk.move hW.size fun q hP _ => ⟨hP, hW.block q hP⟩) (hl.move hW.size fun q hP _ => ⟨hP, hW.block q hP⟩) (hvs.move hW.size fun q hP _ => ⟨hP, hW.block q hP⟩) hb (Nat.le_trans hB hW.size) hpw (hT.keepB hW hpw) hl' hll
        clear hk hl hvs hkn hws hks hle hle' hll
        go_enter Tryz.func23, Tryz.ntmps23
        go_wp2_with fail
        refine (HBy.out _ 123 123 rfl _ H0.out.bld (by have := HL.out; omega) H0.out.size).mono ?_
        rintro e w1 ⟨rfl, h1, b1, o1⟩
        have HS1 := Lib.hid (H0.out.more h1 b1 o1)
        clear h1 b1 o1 s0 s1 s2 s3 s4 s5
        obtain ⟨s0, s1, s2, s3, s4, s5⟩ := HS1.out.six.cells
        go_wp2_with fail
        refine (HWr.out _ _ HS1.out.below HS1.out.bld (by have := HL.out; simp only [List.length_append, List.length_cons, List.length_nil]; omega)).mono ?_
        rintro e w2 ⟨rfl, h2, b2, o2⟩
        have HS2 := Lib.hid (HS1.out.more h2 b2 o2)
        clear h2 b2 o2 s0 s1 s2 s3 s4 s5
        go_wp2_with fail
        refine (HBy.out _ 125 125 rfl _ HS2.out.bld (by have := HL.out; simp only [List.length_append, List.length_cons, List.length_nil]; omega) HS2.out.size).mono ?_
        rintro e w3 ⟨rfl, h3, b3, o3⟩
        have HP : Hid (SgP B b (l ++ 123 :: (inkJ true keys (inkVs list) list.length ++ [125])) w (.returned (.tuple #[])) w3) := Lib.hid (by have := (HS2.out.more h3 b3 o3).post; simpa using this)
        clear h3 b3 o3
        go_wp2_with fail
        go_end0
        exact HP.out
      have HP : Hid (SgP B b (l ++ []) w (.returned (.tuple #[])) (w.alloc (.cells #[.int .i64 k, .string t, .int .u64 u, .slice a list.length d, .slice a' keys.length d', .int .i64 z] 28))) := Lib.hid (by rw [List.append_nil]; exact H0.out.post)
      rw [if_neg g0, if_neg g1, if_neg g2, if_neg g3, if_neg g4, if_neg g5, if_neg g6]
      have z0 : (k == 0) = false := beq_eq_false_iff_ne.2 g0
      have z1 : (k == 1) = false := beq_eq_false_iff_ne.2 g1
      have z2 : (k == 2) = false := beq_eq_false_iff_ne.2 g2
      have z3 : (k == 3) = false := beq_eq_false_iff_ne.2 g3
      have z4 : (k == 4) = false := beq_eq_false_iff_ne.2 g4
      have z5 : (k == 5) = false := beq_eq_false_iff_ne.2 g5
      have z6 : (k == 6) = false := beq_eq_false_iff_ne.2 g6
      clear hk hl hvs hkn hws hks g0 g1 g2 g3 g4 g5 g6
      go_enter Tryz.func23, Tryz.ntmps23
      go_wp2_with fail
      go_end0
      exact HP.out
end Go.Proofs.YtabcbeolhhdkpaaGreatDoor
