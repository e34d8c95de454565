/-
  Chapter 21, plainly: rules that do together what one with a long Push would.
-/
import Derived.Test.YtjanbhodikhdeaaDoorPdA
namespace Go.Proofs.YtjanbhodikhdeaaDoor

/-- Where the j-th of k + 1 rules leads. -/
def lgTo (to fresh : Int) (k j : Nat) : Int := if j = k then to else fresh + j
/-- The j-th of k + 1 rules, with so many labels left for those behind the first. -/
def lgR (fr top to : Int) (push : List Int) (cost fresh : Int) (m k j : Nat) : Ru :=
  if j = 0 then ⟨fr, top, lgTo to fresh k 0, push.drop m, capI cost⟩
  else ⟨fresh + ((j - 1 : Nat) : Int), push.getD (m - j + 1) 0, lgTo to fresh k j, (push.drop (m - j)).take 2, 0⟩
def lgL (fr top to : Int) (push : List Int) (cost fresh : Int) (m k : Nat) : List Ru := (List.range (k + 1)).map (lgR fr top to push cost fresh m k)
theorem lgL_len (fr top to : Int) (push : List Int) (cost fresh : Int) (m k : Nat) : (lgL fr top to push cost fresh m k).length = k + 1 := by simp [lgL]
theorem lgL_at {fr top to : Int} {push : List Int} {cost fresh : Int} {m k j : Nat} (h : j ≤ k) : (lgL fr top to push cost fresh m k)[j]? = some (lgR fr top to push cost fresh m k j) := by
  unfold lgL
  rw [List.getElem?_map, List.getElem?_range (by omega)]
  rfl
/-- One more round: the last one leads on, and one more comes behind it. -/
theorem lgR_old {fr top to : Int} {push : List Int} {cost fresh : Int} {m k j : Nat} (h : j < k) : lgR fr top to push cost fresh m (k + 1) j = lgR fr top to push cost fresh m k j := by
  have e : lgTo to fresh (k + 1) j = lgTo to fresh k j := by unfold lgTo; rw [if_neg (by omega), if_neg (by omega)]
  unfold lgR
  by_cases hj : j = 0
  · subst hj; rw [if_pos rfl, if_pos rfl, e]
  · rw [if_neg hj, if_neg hj, e]
theorem lgR_last (fr top to : Int) (push : List Int) (cost fresh : Int) (m k : Nat) : lgR fr top to push cost fresh m (k + 1) k = { lgR fr top to push cost fresh m k k with to := fresh + k } := by
  have e : lgTo to fresh (k + 1) k = fresh + k := by unfold lgTo; rw [if_neg (by omega)]
  unfold lgR
  by_cases hj : k = 0
  · subst hj; rw [if_pos rfl, if_pos rfl, e]
  · rw [if_neg hj, if_neg hj, e]
theorem lgR_new (fr top to : Int) (push : List Int) (cost fresh : Int) (m k : Nat) : lgR fr top to push cost fresh m (k + 1) (k + 1) = ⟨fresh + k, push.getD (m - (k + 1) + 1) 0, to, (push.drop (m - (k + 1))).take 2, 0⟩ := by
  unfold lgR lgTo
  rw [if_neg (by omega), if_pos rfl]
  rfl
/-- The numbers from 0 on. -/
def upI (k : Nat) : List Int := (List.range k).map Int.ofNat
theorem upI_succ (k : Nat) : upI (k + 1) = upI k ++ [(k : Int)] := by unfold upI; rw [List.range_succ, List.map_append]; rfl
theorem upI_len (k : Nat) : (upI k).length = k := by simp [upI]
theorem goC_one {rs : List Ru} {j : Nat} {r : Ru} {c : Cf} {n a : Int} (h : rs[j]? = some r) (hf : fitsB r c = true) : goC rs [(j : Int)] a c n = ⟨doC r c, addI n r.cost, 0, 0⟩ := by
  have e : ruAt rs (j : Int) = some r := by unfold ruAt; rw [if_pos (by omega)]; exact h
  rw [goC_cons, e]
  simp only [hf, if_pos]
  rfl
theorem lg_run (top to : Int) (push rest : List Int) (cost fresh : Int) (m : Nat) (hm : m = push.length - 2) : ∀ j, j ≤ m →
    goC (lgL 0 top to push cost fresh m m) (upI (j + 1)) 0 (0, top :: rest) 0 = ⟨(lgTo to fresh m j, push.drop (m - j) ++ rest), capI cost, 0, 0⟩
  | 0, _ => by
    rw [show upI (0 + 1) = [((0 : Nat) : Int)] from rfl, goC_one (lgL_at (Nat.zero_le _)) (by simp [lgR, fitsB])]
    have e : addI 0 (capI cost) = capI cost := by rw [addI_comm, addI_zero, capI_capI]
    simp only [lgR, if_pos, doC, List.tail_cons, Nat.sub_zero, e]
  | j + 1, hj => by
    rw [upI_succ, goC_app _ _ _ _ _ (by rw [lg_run top to push rest cost fresh m hm j (by omega)]), lg_run top to push rest cost fresh m hm j (by omega)]
    have hlt : m - j < push.length := by omega
    obtain ⟨x, hx⟩ : ∃ x, push[m - j]? = some x := ⟨_, List.getElem?_eq_getElem hlt⟩
    have hd : push.drop (m - j) = x :: push.drop (m - j + 1) := by
      obtain ⟨h1, h2⟩ := List.getElem?_eq_some_iff.1 hx
      rw [List.drop_eq_getElem_cons h1, h2]
    have ht : lgTo to fresh m j = fresh + j := by unfold lgTo; rw [if_neg (by omega)]
    have hr : lgR 0 top to push cost fresh m m (j + 1) = ⟨fresh + (j : Int), x, lgTo to fresh m (j + 1), (push.drop (m - (j + 1))).take 2, 0⟩ := by
      unfold lgR
      rw [if_neg (by omega)]
      have e1 : push.getD (m - (j + 1) + 1) 0 = x := by rw [show m - (j + 1) + 1 = m - j by omega, List.getD_eq_getElem?_getD, hx]; rfl
      rw [e1]
      rfl
    rw [goC_one (lgL_at hj) (by rw [hr, ht, hd]; simp [fitsB]), hr, hd]
    have hd2 : push.drop (m - (j + 1)) = (push.drop (m - (j + 1))).take 2 ++ push.drop (m - j + 1) := by
      have e := (List.take_append_drop 2 (push.drop (m - (j + 1)))).symm
      rw [List.drop_drop, show m - (j + 1) + 2 = m - j + 1 by omega] at e
      exact e
    have e2 : addI (capI cost) 0 = capI cost := by rw [addI_zero, capI_capI]
    simp only [doC, List.cons_append, List.tail_cons, e2]
    rw [← List.append_assoc, ← hd2]
theorem lg_whole (top to : Int) (push rest : List Int) (cost fresh : Int) (m : Nat) (hm : m = push.length - 2) :
    goC (lgL 0 top to push cost fresh m m) (upI (m + 1)) 0 (0, top :: rest) 0 = ⟨(to, push ++ rest), capI cost, 0, 0⟩ := by
  rw [lg_run top to push rest cost fresh m hm m (Nat.le_refl _)]
  simp [lgTo]
/-- The law's rules may be. -/
theorem lg_may (top to : Int) (push : List Int) (cost : Int) (m : Nat) (hm : m = push.length - 2) (hl : push.length ≤ 10) (ht : 0 ≤ top ∧ top < 100) (hto : 0 ≤ to ∧ to < 2) (hp : ∀ x ∈ push, 0 ≤ x ∧ x < 100) :
    pdsF 20 100 (lgL 0 top to push cost 2 m m) = (0, 0) := by
  have hT : ∀ j, j ≤ m → inB 20 (lgTo to 2 m j) = true := fun j hj => by
    rw [inB_iff]
    unfold lgTo
    split <;> omega
  have hP : ∀ l : List Int, (∀ x ∈ l, x ∈ push) → (l.any fun x => !inB 100 x) = false := fun l h => by
    rw [List.any_eq_false]
    intro x hx
    have := hp x (h x hx)
    simp [inB, this]
  have hr : ∀ r ∈ lgL 0 top to push cost 2 m m, ruF 20 100 r = 0 := by
    intro r hr
    unfold lgL at hr
    obtain ⟨j, hj, rfl⟩ := List.mem_map.1 hr
    rw [List.mem_range] at hj
    unfold ruF
    unfold lgR
    by_cases h0 : j = 0
    · subst h0
      rw [if_pos rfl]
      rw [if_pos ⟨show inB 20 0 = true by decide, hT 0 (by omega), by rw [inB_iff]; omega, hP _ fun x hx => List.mem_of_mem_drop hx⟩]
      rw [if_neg (by simp only [List.length_drop]; omega), if_neg (by have := capI_le cost; simp only []; omega)]
    · rw [if_neg h0]
      have hget : 0 ≤ push.getD (m - j + 1) 0 ∧ push.getD (m - j + 1) 0 < 100 := by
        obtain ⟨x, hx⟩ : ∃ x, push[m - j + 1]? = some x := ⟨_, List.getElem?_eq_getElem (by omega)⟩
        rw [List.getD_eq_getElem?_getD, hx]
        exact hp x (List.mem_of_getElem? hx)
      rw [if_pos ⟨by simp only [inB_iff]; omega, hT j (by omega), by rw [inB_iff]; exact hget, hP _ fun x hx => List.mem_of_mem_drop (List.mem_of_mem_take hx)⟩]
      rw [if_neg (by simp only [List.length_take]; omega), if_neg (by simp only [most]; omega)]
  unfold pdsF
  rw [if_neg (by decide)]
  exact rusF_ok 0 hr
end Go.Proofs.YtjanbhodikhdeaaDoor
