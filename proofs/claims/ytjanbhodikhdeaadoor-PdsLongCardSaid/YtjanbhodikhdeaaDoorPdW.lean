/-
  Chapter 21's Long: the next state; a rule's To set in a row of the call's own; one round, plainly.
-/
import Derived.Test.YtjanbhodikhdeaaDoorPdF
import Derived.Test.YtjanbhodikhdeaaDoorPdN
import Derived.Test.YtjanbhodikhdeaaDoorPdL
namespace Go.Proofs.YtjanbhodikhdeaaDoor
open Go.RowKit Go.Extern.Stop Go.Stop Go.Extern

set_option maxRecDepth 100000 in
set_option maxHeartbeats 4000000 in
theorem higher_any (s : Int) (h0 : 0 ≤ s) (h1 : s < 1000) (w : World) :
    Calls Tryd.prog 29 #[.int .i64 s] w fun e w' => e = .returned (.int .i64 (s + 1)) ∧ w' = w := by
  have hne : ¬ s = 9223372036854775807 := by omega
  have hb : (s == 9223372036854775807) = false := by simpa using hne
  go_enter Tryd.func29, Tryd.ntmps29
  go_wp2
  go_ret
  simp
theorem lgL_succ (fr top to : Int) (push : List Int) (cost fresh : Int) (m k : Nat) :
    lgL fr top to push cost fresh m (k + 1) = (lgL fr top to push cost fresh m k).set k { lgR fr top to push cost fresh m k k with to := fresh + k } ++ [⟨fresh + k, push.getD (m - (k + 1) + 1) 0, to, (push.drop (m - (k + 1))).take 2, 0⟩] := by
  refine List.ext_getElem? fun i => ?_
  rcases Nat.lt_trichotomy i (k + 1) with hi | rfl | hi
  · rw [lgL_at (by omega), List.getElem?_append_left (by simp [lgL_len]; omega), List.getElem?_set]
    by_cases e : k = i
    · subst e
      rw [if_pos rfl, if_pos (by rw [lgL_len]; omega), lgR_last]
    · rw [if_neg e, lgL_at (by omega), lgR_old (by omega)]
  · rw [lgL_at (Nat.le_refl _), List.getElem?_append_right (by simp [lgL_len]), lgR_new]
    simp [lgL_len]
  · rw [List.getElem?_eq_none (by rw [lgL_len]; omega), List.getElem?_eq_none (by simp [lgL_len]; omega)]
theorem ruC_set : ∀ {l : List Ru} {us : List Value} {k : Nat} {r : Ru} (t : Int), us.length = l.length → l[k]? = some r → ruC (l.set k { r with to := t }) us = (ruC l us).set (k * 5 + 2) (.int .i64 t)
  | [], _, _, _, _, _, h => by simp at h
  | _ :: _, [], _, _, _, h, _ => by simp at h
  | a :: l, b :: us, 0, r, t, _, h => by
    obtain rfl : a = r := by simpa using h
    rfl
  | a :: l, b :: us, k + 1, r, t, hl, h => by
    have ih := ruC_set (l := l) (us := us) (k := k) (r := r) t (by simpa using hl) (by simpa using h)
    rw [show (k + 1) * 5 + 2 = (k * 5 + 2) + 5 by omega]
    show ruC (a :: l.set k _) (b :: us) = _
    unfold ruC
    rw [ih]
    rfl
theorem ruC_len : ∀ {l : List Ru} {us : List Value}, us.length = l.length → (ruC l us).length = l.length * 5
  | [], [], _ => rfl
  | [], _ :: _, h => by simp at h
  | _ :: _, [], h => by simp at h
  | a :: l, b :: us, h => by
    have := ruC_len (l := l) (us := us) (by simpa using h)
    simp only [ruC, List.length_cons, this]
    omega
/-- The To of a rule in a row of the call's own is set. -/
theorem RuO.setTo {T : TypeId} (hT : 3 ≠ T) {B g n cap : Nat} {l : List Ru} {us : List Value} {W : World} (h : RuO T B (.slice (some ⟨g, 0, none⟩) n cap) l us W) {k : Nat} {r : Ru} (hk : l[k]? = some r) (t : Int) :
    RuO T B (.slice (some ⟨g, 0, none⟩) n cap) (l.set k { r with to := t }) us (W.setCell ⟨g, k * 5 + 2, none⟩ (.int .i64 t)) := by
  have hkl := (List.getElem?_eq_some_iff.1 hk).1
  have hs : Surv B T W (W.setCell ⟨g, k * 5 + 2, none⟩ (.int .i64 t)) := Surv.grown h.own (grown_set W g (k * 5 + 2) _)
  refine ⟨by simp [h.len], ?_, ?_⟩
  · rw [List.length_set, ruC_set t h.len hk]
    refine ⟨by rw [List.length_set]; exact h.own.1, ?_⟩
    rcases h.own.2 with ⟨h0, -⟩ | ⟨g', cap', cur, e0, hB, hh, hle, hmx, hsz, hx⟩
    · cases h0
    · injection e0 with e1 e2 e3
      injection e1 with e1
      injection e1 with e1
      subst e1 e2 e3
      refine .inr ⟨g, cap, _, rfl, hB, heap_setCell_same W g (k * 5 + 2) _ _ (.int .i64 t) hh, hle, hmx, by simpa using hsz, ?_⟩
      rw [← hx]
      simp [List.take_set]
  · intro j q u hq hu
    rw [List.getElem?_set] at hq
    by_cases e : k = j
    · subst e
      rw [if_pos rfl, if_pos hkl] at hq
      obtain rfl := Option.some.inj hq
      exact ownsRow_surv (h.ps k r u hk hu) hs hT
    · rw [if_neg e] at hq
      exact ownsRow_surv (h.ps j q u hq hu) hs hT
end Go.Proofs.YtjanbhodikhdeaaDoor
