/-
  A part of the proof of the statement NfaAccepts.
-/
import Derived.Test.YtbhkfifmgbcknaaGreatDoorG05
import Derived.Test.YtbhkfifmgbcknaaGreatDoorG26
import Derived.Test.YtbhkfifmgbcknaaGreatDoorG04
import Derived.Test.YtbhkfifmgbcknaaGreatDoorG07
set_option linter.unusedSimpArgs false
set_option linter.unusedVariables false
namespace Go.Proofs.YtbhkfifmgbcknaaGreatDoor
open Go
structure Lk where
  nm : ByteArray
  fr : Int
  to : Int
  ds : Int
def InN (n : Nat) (u : Int) : Prop := 0 ≤ u ∧ u < n
instance (n : Nat) (u : Int) : Decidable (InN n u) := inferInstanceAs (Decidable (_ ∧ _))
def MayL (n : Nat) (ls : List Lk) : Prop := ∀ (i : Nat) (l : Lk), ls[i]? = some l → InN n l.fr ∧ InN n l.to ∧ 0 ≤ l.ds ∧ l.ds ≤ most
theorem addI_mono {a b c : Int} (h : a ≤ b) : addI a c ≤ addI b c := by
  unfold addI; simp only [capI_eq]; omega
theorem addI_most (a b : Int) : addI a b ≤ most := capI_le _
theorem addI_up {a c : Int} (ha : a ≤ most) (hc : 0 ≤ c) : a ≤ addI a c := by
  have := addI_ge a c hc
  rwa [capI_of_le ha] at this
theorem addI_pos {a c : Int} (ha : 0 ≤ a) (hc : 0 ≤ c) : 0 ≤ addI a c := (addI_bd a c ha hc).1
inductive Way (ls : List Lk) (n : Nat) (F : Nat → Bool) (a : Int) : Int → Int → Prop
  | nil : InN n a → Way ls n F a a 0
  | go {u d : Int} {i : Nat} {l : Lk} : Way ls n F a u d → ls[i]? = some l → F i = false → l.fr = u → Way ls n F a l.to (addI d l.ds)
section
variable {ls : List Lk} {n : Nat} {F : Nat → Bool} {a : Int}
theorem Way.bd (hm : MayL n ls) {v d : Int} (h : Way ls n F a v d) : InN n v ∧ 0 ≤ d ∧ d ≤ most := by
  induction h with
  | nil h => exact ⟨h, Int.le_refl _, by decide⟩
  | go h hi _ _ ih =>
    obtain ⟨_, h2, h3, _⟩ := hm _ _ hi
    exact ⟨h2, addI_pos ih.2.1 h3, addI_most _ _⟩
theorem Way.ok {v d : Int} (h : Way ls n F a v d) : InN n a := by
  induction h with
  | nil h => exact h
  | go _ _ _ _ ih => exact ih
def Best (ls : List Lk) (n : Nat) (F : Nat → Bool) (a v d : Int) : Prop := Way ls n F a v d ∧ ∀ d', Way ls n F a v d' → d ≤ d'
theorem Best.one {v d d' : Int} (h : Best ls n F a v d) (h' : Best ls n F a v d') : d = d' := by
  have := h.2 _ h'.1
  have := h'.2 _ h.1
  omega
def Told (ls : List Lk) (n : Nat) (F : Nat → Bool) (a v d : Int) (ok : Bool) : Prop := (ok = true ∧ Best ls n F a v d) ∨ (ok = false ∧ d = 0 ∧ ∀ d', ¬ Way ls n F a v d')
theorem Told.one {v d d' : Int} {o o' : Bool} (h : Told ls n F a v d o) (h' : Told ls n F a v d' o') : d = d' ∧ o = o' := by
  rcases h with ⟨rfl, h⟩ | ⟨rfl, rfl, h⟩ <;> rcases h' with ⟨rfl, h'⟩ | ⟨rfl, rfl, h'⟩
  · exact ⟨h.one h', rfl⟩
  · exact absurd h.1 (h' _)
  · exact absurd h'.1 (h _)
  · exact ⟨rfl, rfl⟩
structure Dij (ls : List Lk) (n : Nat) (F : Nat → Bool) (a : Int) (L : Int → Prop) (K : Nat → Prop) (q : List (E Int)) : Prop where
  come : ∀ e ∈ q, L e.x → Way ls n F a e.x e.c
  fin : ∀ u, InN n u → ¬ L u → ∃ d, Best ls n F a u d ∧ ∀ i l, K i → ls[i]? = some l → F i = false → l.fr = u → L l.to → ∃ e ∈ q, e.x = l.to ∧ e.c ≤ addI d l.ds
  start : L a → ∃ e ∈ q, e.x = a ∧ e.c ≤ 0
theorem Dij.init (L : Int → Prop) (hL : ∀ u, L u ↔ InN n u) (e : E Int) (hx : e.x = a) (hc : e.c = 0) : Dij ls n F a L (fun _ => True) [e] := by
  refine ⟨fun e' he h => ?_, fun u hu h => absurd ((hL u).2 hu) h, fun _ => ⟨e, List.mem_singleton.2 rfl, hx, by omega⟩⟩
  obtain rfl := List.mem_singleton.1 he
  rw [hx, hc]
  rw [hx] at h
  exact Way.nil ((hL _).1 h)
theorem Dij.front (hm : MayL n ls) {L : Int → Prop} {q : List (E Int)} (h : Dij ls n F a L (fun _ => True) q) {v d : Int} (hw : Way ls n F a v d) : L v → ∃ e ∈ q, L e.x ∧ e.c ≤ d := by
  induction hw with
  | nil _ =>
    intro hv
    obtain ⟨e, he, hx, hc⟩ := h.start hv
    exact ⟨e, he, by rw [hx]; exact hv, hc⟩
  | @go u d i l hw hi hF hfr ih =>
    intro hv
    have hb := hw.bd hm
    obtain ⟨_, _, h0, _⟩ := hm _ _ hi
    by_cases hu : L u
    · obtain ⟨e, he, hx, hc⟩ := ih hu
      exact ⟨e, he, hx, Int.le_trans hc (addI_up hb.2.2 h0)⟩
    · obtain ⟨du, hbest, hl⟩ := h.fin u hb.1 hu
      obtain ⟨e, he, hx, hc⟩ := hl i l trivial hi hF hfr hv
      exact ⟨e, he, by rw [hx]; exact hv, Int.le_trans hc (addI_mono (hbest.2 _ hw))⟩
theorem sorted_le {e : E Int} {q : List (E Int)} (hs : Sorted (e :: q)) {e' : E Int} (he : e' ∈ e :: q) : e.c ≤ e'.c := by
  unfold Sorted at hs
  rw [List.pairwise_cons] at hs
  rcases List.mem_cons.1 he with rfl | he
  · exact Int.le_refl _
  · have := hs.1 _ he
    unfold E.lt at this
    omega
theorem Dij.pop (hm : MayL n ls) {L : Int → Prop} {e : E Int} {q : List (E Int)} (h : Dij ls n F a L (fun _ => True) (e :: q)) (hs : Sorted (e :: q)) (hx : L e.x) : Best ls n F a e.x e.c := by
  refine ⟨h.come e (List.mem_cons_self ..) hx, fun d' hw => ?_⟩
  obtain ⟨e', he', -, hc⟩ := h.front hm hw hx
  exact Int.le_trans (sorted_le hs he') hc
theorem Dij.none (hm : MayL n ls) {L : Int → Prop} (h : Dij ls n F a L (fun _ => True) []) {v : Int} (hv : InN n v → L v) (d : Int) : ¬ Way ls n F a v d := by
  intro hw
  obtain ⟨e, he, -⟩ := h.front hm hw (hv (hw.bd hm).1)
  cases he
theorem Dij.skip {L : Int → Prop} {e : E Int} {q : List (E Int)} (h : Dij ls n F a L (fun _ => True) (e :: q)) (hx : ¬ L e.x) : Dij ls n F a L (fun _ => True) q := by
  refine ⟨fun e' he => h.come e' (List.mem_cons_of_mem _ he), fun u hu hl => ?_, fun ha => ?_⟩
  · obtain ⟨d, hb, hd⟩ := h.fin u hu hl
    refine ⟨d, hb, fun i l hk hi hF hfr hto => ?_⟩
    obtain ⟨e', he', hx', hc⟩ := hd i l hk hi hF hfr hto
    rcases List.mem_cons.1 he' with rfl | he'
    · rw [hx'] at hx; exact absurd hto hx
    · exact ⟨e', he', hx', hc⟩
  · obtain ⟨e', he', hx', hc⟩ := h.start ha
    rcases List.mem_cons.1 he' with rfl | he'
    · rw [hx'] at hx; exact absurd ha hx
    · exact ⟨e', he', hx', hc⟩
theorem Dij.mark (hm : MayL n ls) {L L' : Int → Prop} {e : E Int} {q : List (E Int)} (h : Dij ls n F a L (fun _ => True) (e :: q)) (hs : Sorted (e :: q)) (hx : L e.x) (hL : ∀ u, L' u ↔ L u ∧ u ≠ e.x) :
    Dij ls n F a L' (fun i => ∀ l, ls[i]? = some l → l.fr ≠ e.x) q := by
  have hb := h.pop hm hs hx
  refine ⟨fun e' he hl => h.come e' (List.mem_cons_of_mem _ he) ((hL _).1 hl).1, fun u hu hl => ?_, fun ha => ?_⟩
  · by_cases hux : u = e.x
    · subst hux
      exact ⟨_, hb, fun i l hk hi _ hfr => absurd hfr (hk l hi)⟩
    · obtain ⟨d, hbu, hd⟩ := h.fin u hu (fun h' => hl ((hL u).2 ⟨h', hux⟩))
      refine ⟨d, hbu, fun i l _ hi hF hfr hto => ?_⟩
      have hto' := (hL _).1 hto
      obtain ⟨e', he', hx', hc⟩ := hd i l trivial hi hF hfr hto'.1
      rcases List.mem_cons.1 he' with rfl | he'
      · exact absurd hx'.symm hto'.2
      · exact ⟨e', he', hx', hc⟩
  · have ha' := (hL _).1 ha
    obtain ⟨e', he', hx', hc⟩ := h.start ha'.1
    rcases List.mem_cons.1 he' with rfl | he'
    · exact absurd hx'.symm ha'.2
    · exact ⟨e', he', hx', hc⟩
theorem Dij.put {L : Int → Prop} {K K' : Nat → Prop} {q q' : List (E Int)} (h : Dij ls n F a L K q) {x c : Int} (hb : Best ls n F a x c) {j : Nat} {l : Lk} (hj : ls[j]? = some l) (hF : F j = false) (hfr : l.fr = x)
    {e : E Int} (hx : e.x = l.to) (hc : e.c = addI c l.ds) (hq : ∀ y, y ∈ q' ↔ y = e ∨ y ∈ q) (hK : ∀ i, K' i → K i ∨ i = j) : Dij ls n F a L K' q' := by
  refine ⟨fun e' he hl => ?_, fun u hu hl => ?_, fun ha => ?_⟩
  · rcases (hq e').1 he with rfl | he
    · rw [hx, hc]; exact Way.go hb.1 hj hF hfr
    · exact h.come e' he hl
  · obtain ⟨d, hbu, hd⟩ := h.fin u hu hl
    refine ⟨d, hbu, fun i l' hk hi hF' hfr' hto => ?_⟩
    rcases hK i hk with hk | rfl
    · obtain ⟨e', he', hx', hc'⟩ := hd i l' hk hi hF' hfr' hto
      exact ⟨e', (hq e').2 (.inr he'), hx', hc'⟩
    · rw [hj] at hi
      injection hi with hi
      subst hi
      refine ⟨e, (hq e).2 (.inl rfl), hx, ?_⟩
      have : u = x := hfr'.symm.trans hfr
      subst this
      rw [hc, hbu.one hb]
      exact Int.le_refl _
  · obtain ⟨e', he', h'⟩ := h.start ha
    exact ⟨e', (hq e').2 (.inr he'), h'⟩
theorem Dij.all {L : Int → Prop} {K : Nat → Prop} {q : List (E Int)} (h : Dij ls n F a L K q) (hK : ∀ i l, ls[i]? = some l → F i = false → K i) : Dij ls n F a L (fun _ => True) q := by
  refine ⟨h.come, fun u hu hl => ?_, h.start⟩
  obtain ⟨d, hbu, hd⟩ := h.fin u hu hl
  exact ⟨d, hbu, fun i l _ hi hF => hd i l (hK i l hi hF) hi hF⟩
theorem Dij.kless {L : Int → Prop} {K K' : Nat → Prop} {q : List (E Int)} (h : Dij ls n F a L K q) (hK : ∀ i, K' i → K i) : Dij ls n F a L K' q := by
  refine ⟨h.come, fun u hu hl => ?_, h.start⟩
  obtain ⟨d, hbu, hd⟩ := h.fin u hu hl
  exact ⟨d, hbu, fun i l hk => hd i l (hK i hk)⟩
inductive Sway (ls : List Lk) (n : Nat) (F : Nat → Bool) (a : Int) : Int → Int → List Int → Prop
  | nil : InN n a → Sway ls n F a a 0 [a]
  | go {u d : Int} {ns : List Int} {i : Nat} {l : Lk} : Sway ls n F a u d ns → ls[i]? = some l → F i = false → l.fr = u → l.to ∉ ns → Sway ls n F a l.to (addI d l.ds) (l.to :: ns)
theorem Sway.way {v d : Int} {ns : List Int} (h : Sway ls n F a v d ns) : Way ls n F a v d := by
  induction h with
  | nil h => exact .nil h
  | go _ hi hF hfr _ ih => exact .go ih hi hF hfr
theorem Sway.cut (hm : MayL n ls) {v d : Int} {ns : List Int} (h : Sway ls n F a v d ns) : ∀ u ∈ ns, ∃ d' ns', Sway ls n F a u d' ns' ∧ d' ≤ d := by
  induction h with
  | nil h =>
    intro u hu
    obtain rfl := List.mem_singleton.1 hu
    exact ⟨0, [u], .nil h, Int.le_refl _⟩
  | @go u d ns i l hw hi hF hfr hn ih =>
    intro x hx
    rcases List.mem_cons.1 hx with rfl | hx
    · exact ⟨_, _, .go hw hi hF hfr hn, Int.le_refl _⟩
    · obtain ⟨d', ns', h', hd⟩ := ih x hx
      exact ⟨d', ns', h', Int.le_trans hd (addI_up (hw.way.bd hm).2.2 (hm _ _ hi).2.2.1)⟩
theorem Way.simple (hm : MayL n ls) {v d : Int} (h : Way ls n F a v d) : ∃ d' ns, Sway ls n F a v d' ns ∧ d' ≤ d := by
  induction h with
  | nil h => exact ⟨0, [a], .nil h, Int.le_refl _⟩
  | @go u d i l hw hi hF hfr ih =>
    obtain ⟨d', ns, hs, hd⟩ := ih
    by_cases hv : l.to ∈ ns
    · obtain ⟨d2, ns2, hs2, hd2⟩ := hs.cut hm _ hv
      exact ⟨d2, ns2, hs2, Int.le_trans hd2 (Int.le_trans hd (addI_up (hw.bd hm).2.2 (hm _ _ hi).2.2.1))⟩
    · exact ⟨_, _, .go hs hi hF hfr hv, addI_mono hd⟩
theorem Sway.nodup {v d : Int} {ns : List Int} (hm : MayL n ls) (h : Sway ls n F a v d ns) : ns.Nodup ∧ ∀ x ∈ ns, InN n x := by
  induction h with
  | nil h => exact ⟨by simp, fun x hx => by obtain rfl := List.mem_singleton.1 hx; exact h⟩
  | go hw hi _ _ hn ih =>
    refine ⟨List.nodup_cons.2 ⟨hn, ih.1⟩, fun x hx => ?_⟩
    rcases List.mem_cons.1 hx with rfl | hx
    · exact (hm _ _ hi).2.1
    · exact ih.2 x hx
theorem nodup_le : ∀ (n : Nat) (l : List Int), l.Nodup → (∀ x ∈ l, InN n x) → l.length ≤ n
  | 0, [], _, _ => Nat.le_refl _
  | 0, x :: _, _, h => by have := h x (List.mem_cons_self ..); unfold InN at this; omega
  | n + 1, l, hd, h => by
    by_cases hn : (n : Int) ∈ l
    · have e := List.length_erase_of_mem hn
      have hd' := hd.erase (n : Int)
      have := nodup_le n (l.erase (n : Int)) hd' (fun x hx => by
        obtain ⟨hne, hx'⟩ := (hd.mem_erase_iff).1 hx
        have := h x hx'
        unfold InN at *
        omega)
      omega
    · have := nodup_le n l hd (fun x hx => by
        have h1 := h x hx
        have h2 : x ≠ (n : Int) := fun e => hn (e ▸ hx)
        unfold InN at *
        omega)
      omega
theorem Sway.short (hm : MayL n ls) {v d : Int} {ns : List Int} (h : Sway ls n F a v d ns) : ns.length ≤ n :=
  nodup_le n ns (h.nodup hm).1 (h.nodup hm).2
theorem Sway.pos {v d : Int} {ns : List Int} (h : Sway ls n F a v d ns) : 1 ≤ ns.length := by cases h <;> simp
theorem Sway.last {v d : Int} {ns : List Int} (h : Sway ls n F a v d ns) : (v = a ∧ d = 0 ∧ InN n a) ∨ ∃ u d1 ns1 i l, Sway ls n F a u d1 ns1 ∧ ls[i]? = some l ∧ F i = false ∧ l.fr = u ∧ v = l.to ∧ d = addI d1 l.ds ∧ ns.length = ns1.length + 1 := by
  cases h with
  | nil h => exact .inl ⟨rfl, rfl, h⟩
  | go h hi hF hfr hn => exact .inr ⟨_, _, _, _, _, h, hi, hF, hfr, rfl, rfl, rfl⟩
structure Bf (ls : List Lk) (n : Nat) (F : Nat → Bool) (a : Int) (k i : Nat) (cost : Nat → Int) (known : Nat → Bool) : Prop where
  come : ∀ v : Nat, v < n → known v = true → Way ls n F a v (cost v)
  rnd : ∀ (v : Nat) d ns, Sway ls n F a v d ns → ns.length ≤ k + 1 → known v = true ∧ cost v ≤ d
  now : ∀ (u v : Nat) d ns j l, Sway ls n F a u d ns → ns.length ≤ k + 1 → j < i → ls[j]? = some l → F j = false → l.fr = u → l.to = v → known v = true ∧ cost v ≤ addI d l.ds
theorem Bf.init {A : Nat} (ha : a = A) (hn : A < n) {cost : Nat → Int} {known : Nat → Bool} (hc : cost A = 0) (hk : ∀ v, known v = decide (v = A)) : Bf ls n F a 0 0 cost known := by
  refine ⟨fun v hv h => ?_, fun v d ns h hl => ?_, fun u v d ns j l _ _ hj => absurd hj (Nat.not_lt_zero _)⟩
  · rw [hk] at h
    obtain rfl : v = A := of_decide_eq_true h
    rw [hc, ← ha]
    exact .nil (by unfold InN; omega)
  · rcases h.last with ⟨e, rfl, -⟩ | ⟨_, _, ns1, _, _, h1, _, _, _, _, _, e⟩
    · obtain rfl : v = A := by omega
      exact ⟨by rw [hk]; simp, by omega⟩
    · have := h1.pos; omega
theorem Bf.skip {k i : Nat} {cost : Nat → Int} {known : Nat → Bool} (h : Bf ls n F a k i cost known) {l : Lk} (hi : ls[i]? = some l) (hs : F i = true ∨ ∃ u : Nat, l.fr = u ∧ known u = false) : Bf ls n F a k (i + 1) cost known := by
  refine ⟨h.come, h.rnd, fun u v d ns j l' hw hl hj hjl hF hfr hto => ?_⟩
  by_cases e : j = i
  · subst e
    rw [hi] at hjl
    injection hjl with hjl
    subst hjl
    rcases hs with hs | ⟨u', e, hs⟩
    · rw [hF] at hs; cases hs
    · obtain rfl : u = u' := by omega
      have := (h.rnd u d ns hw hl).1
      rw [hs] at this; cases this
  · exact h.now u v d ns j l' hw hl (by omega) hjl hF hfr hto
theorem Bf.next (hm : MayL n ls) {k : Nat} {cost : Nat → Int} {known : Nat → Bool} (h : Bf ls n F a k ls.length cost known) : Bf ls n F a (k + 1) 0 cost known := by
  refine ⟨h.come, fun v d ns hw hl => ?_, fun u v d ns j l _ _ hj => absurd hj (Nat.not_lt_zero _)⟩
  by_cases hs : ns.length ≤ k + 1
  · exact h.rnd v d ns hw hs
  · rcases hw.last with ⟨e, rfl, hn⟩ | ⟨u, d1, ns1, j, l, h1, hj, hF, hfr, e, rfl, el⟩
    · have := h.rnd v 0 [a] (by rw [e]; exact .nil hn) (by simp)
      exact this
    · have hu := (h1.way.bd hm).1
      unfold InN at hu
      have hlt : j < ls.length := (List.getElem?_eq_some_iff.1 hj).1
      exact h.now u.toNat v d1 ns1 j l (by rw [show ((u.toNat : Nat) : Int) = u by omega]; exact h1) (by omega) hlt hj hF (by omega) e.symm
theorem Bf.done (hm : MayL n ls) {k : Nat} (hk : n ≤ k + 1) {cost : Nat → Int} {known : Nat → Bool} (h : Bf ls n F a k 0 cost known) {v : Nat} (hv : v < n) (h0 : known v = false → cost v = 0) : Told ls n F a v (cost v) (known v) := by
  cases hkv : known v with
  | true =>
    refine .inl ⟨rfl, h.come v hv hkv, fun d' hw => ?_⟩
    obtain ⟨d2, ns, hs, hd⟩ := hw.simple hm
    have := hs.short hm
    exact Int.le_trans (h.rnd v d2 ns hs (by omega)).2 hd
  | false =>
    refine .inr ⟨rfl, h0 hkv, fun d' hw => ?_⟩
    obtain ⟨d2, ns, hs, hd⟩ := hw.simple hm
    have := hs.short hm
    have := (h.rnd v d2 ns hs (by omega)).1
    rw [hkv] at this; cases this
def Comes (ls : List Lk) (n : Nat) (F : Nat → Bool) (a v : Int) : Prop := ∃ d, Way ls n F a v d
structure Rf (ls : List Lk) (n : Nat) (F : Nat → Bool) (a : Int) (k i : Nat) (came : List Int) : Prop where
  come : ∀ v ∈ came, Comes ls n F a v
  rnd : ∀ v d ns, Sway ls n F a v d ns → ns.length ≤ k + 1 → v ∈ came
  now : ∀ u d ns j l, Sway ls n F a u d ns → ns.length ≤ k + 1 → j < i → ls[j]? = some l → F j = false → l.fr = u → l.to ∈ came
  nd : came.Nodup
theorem Rf.init (ha : InN n a) : Rf ls n F a 0 0 [a] := by
  refine ⟨fun v hv => ?_, fun v d ns h hl => ?_, fun u d ns j l _ _ hj => absurd hj (Nat.not_lt_zero _), by simp⟩
  · obtain rfl := List.mem_singleton.1 hv
    exact ⟨0, .nil ha⟩
  · rcases h.last with ⟨rfl, -⟩ | ⟨_, _, ns1, _, _, h1, _, _, _, _, _, e⟩
    · simp
    · have := h1.pos; omega
theorem Rf.skip {k i : Nat} {came : List Int} (h : Rf ls n F a k i came) {l : Lk} (hi : ls[i]? = some l) (hs : F i = true ∨ l.fr ∉ came ∨ l.to ∈ came) : Rf ls n F a k (i + 1) came := by
  refine ⟨h.come, h.rnd, fun u d ns j l' hw hl hj hjl hF hfr => ?_, h.nd⟩
  by_cases e : j = i
  · subst e
    rw [hi] at hjl
    injection hjl with hjl
    subst hjl
    rcases hs with hs | hs | hs
    · rw [hF] at hs; cases hs
    · exact absurd (hfr ▸ h.rnd u d ns hw hl) hs
    · exact hs
  · exact h.now u d ns j l' hw hl (by omega) hjl hF hfr
theorem Rf.add {k i : Nat} {came : List Int} (h : Rf ls n F a k i came) {l : Lk} (hi : ls[i]? = some l) (hF : F i = false) (hu : l.fr ∈ came) (hv : l.to ∉ came) : Rf ls n F a k (i + 1) (came ++ [l.to]) := by
  refine ⟨fun v hv' => ?_, fun v d ns hw hl => List.mem_append.2 (.inl (h.rnd v d ns hw hl)), fun u d ns j l' hw hl hj hjl hF' hfr => ?_, ?_⟩
  · rcases List.mem_append.1 hv' with hv' | hv'
    · exact h.come v hv'
    · obtain rfl := List.mem_singleton.1 hv'
      obtain ⟨d, hd⟩ := h.come _ hu
      exact ⟨_, .go hd hi hF rfl⟩
  · by_cases e : j = i
    · subst e
      rw [hi] at hjl
      injection hjl with hjl
      subst hjl
      simp
    · exact List.mem_append.2 (.inl (h.now u d ns j l' hw hl (by omega) hjl hF' hfr))
  · refine List.nodup_append.2 ⟨h.nd, by simp, fun x hx y hy => ?_⟩
    obtain rfl := List.mem_singleton.1 hy
    exact fun e => hv (e ▸ hx)
theorem Rf.next {k : Nat} {came : List Int} (h : Rf ls n F a k ls.length came) : Rf ls n F a (k + 1) 0 came := by
  refine ⟨h.come, fun v d ns hw hl => ?_, fun u d ns j l _ _ hj => absurd hj (Nat.not_lt_zero _), h.nd⟩
  rcases hw.last with ⟨e, rfl, hn⟩ | ⟨u, d1, ns1, j, l, h1, hj, hF, hfr, e, rfl, el⟩
  · exact h.rnd v 0 [a] (by rw [e]; exact .nil hn) (by simp)
  · have hlt : j < ls.length := (List.getElem?_eq_some_iff.1 hj).1
    rw [e]
    exact h.now u d1 ns1 j l h1 (by omega) hlt hj hF hfr
theorem Rf.done (hm : MayL n ls) {k : Nat} (hk : n ≤ k + 1) {came : List Int} (h : Rf ls n F a k 0 came) (v : Int) : v ∈ came ↔ Comes ls n F a v := by
  refine ⟨h.come v, fun ⟨d, hw⟩ => ?_⟩
  obtain ⟨d2, ns, hs, -⟩ := hw.simple hm
  have := hs.short hm
  exact h.rnd v d2 ns hs (by omega)
theorem Rf.len (hm : MayL n ls) {k i : Nat} {came : List Int} (h : Rf ls n F a k i came) : came.length ≤ n :=
  nodup_le n came h.nd fun v hv => by obtain ⟨d, hw⟩ := h.come v hv; exact (hw.bd hm).1
theorem comes_closed {S : Int → Prop} (hs : InN n a → S a) (hc : ∀ i l, ls[i]? = some l → F i = false → S l.fr → S l.to) {v : Int} (h : Comes ls n F a v) : S v := by
  obtain ⟨d, hw⟩ := h
  induction hw with
  | nil h => exact hs h
  | go _ hi hF hfr ih => exact hc _ _ hi hF (hfr ▸ ih)
end
end Go.Proofs.YtbhkfifmgbcknaaGreatDoor
namespace Go.Proofs.YtbhkfifmgbcknaaGreatDoor
open Go.RowKit Go.Extern.Stop Go.Stop Go.Extern
def intsL (a b : Nat) : List Int := (setL a b).map Int.ofNat
theorem intsL_enc (a b : Nat) : encN (listN a b) = encI (intsL a b) := by
  unfold encN encI intsL
  rw [← listN_val, List.map_map, List.map_map]
  rfl
theorem intsL_len (a b : Nat) : (listN a b).length = (intsL a b).length := by
  unfold intsL
  rw [← listN_val, List.length_map, List.length_map]
theorem intsL_le (a b : Nat) : (intsL a b).length ≤ 128 := intsL_len a b ▸ listN_len a b
theorem hasL_iff (l : List Int) (i : Int) : hasL l i = true ↔ i ∈ l := by
  unfold hasL
  rw [List.any_eq_true]
  constructor
  · rintro ⟨x, hx, h⟩
    have : x = i := by simpa using h
    exact this ▸ hx
  · intro h
    exact ⟨i, h, by simp⟩
theorem hasL_ints (a b : Nat) (i : Int) : hasL (intsL a b) i = hasI a b i := by
  rw [Bool.eq_iff_iff, hasL_iff]
  unfold hasI intsL
  rw [List.mem_map]
  constructor
  · rintro ⟨j, hj, rfl⟩
    have := (setL_mem a b j).1 hj
    simp [this]
  · intro h
    have h' : 0 ≤ i ∧ hasB a b i.toNat = true := by simpa using h
    exact ⟨i.toNat, (setL_mem a b _).2 h'.2, by simp; omega⟩
end Go.Proofs.YtbhkfifmgbcknaaGreatDoor
namespace Go.Proofs.YtbhkfifmgbcknaaGreatDoor
open Go.RowKit Go.Extern.Stop Go.Stop Go.Extern
structure IsSt (w0 : World) (B a b : Nat) (v : Value) (L : List Int) (W : World) : Prop where
  set : SetAt W B a b
  ints : IntsAt W v L
  tab : TabB W
  below : Below w0.heap.size w0 W
theorem IsSt.step {w0 : World} {B a b : Nat} {v : Value} {L : List Int} {W W' : World} (h : IsSt w0 B a b v L W) (hb : Below W.heap.size W W') : IsSt w0 B a b v L W' :=
  ⟨h.set.step hb, h.ints.step hb, h.tab.below h.tab.lt hb, h.below.trans (hb.mono h.below.size)⟩
end Go.Proofs.YtbhkfifmgbcknaaGreatDoor
namespace Go.Proofs.YtbhkfifmgbcknaaGreatDoor
open Go.RowKit Go.Extern.Stop Go.Stop Go.Extern
abbrev lkV (l : Lk) : Value := .agg #[.string l.nm, .int .i64 l.fr, .int .i64 l.to, .int .u64 l.ds]
def LksAt (w : World) (v : Value) (ls : List Lk) : Prop :=
  (∃ a cap, v = .slice a 0 cap ∧ ls = []) ∨ ∃ b off cap, v = .slice (some ⟨b, off, none⟩) ls.length cap ∧ b < w.heap.size ∧
    ∀ i l, ls[i]? = some l → w.cell? ⟨b, off + i * 4, none⟩ = some (.string l.nm) ∧ w.cell? ⟨b, off + i * 4 + 1, none⟩ = some (.int .i64 l.fr) ∧ w.cell? ⟨b, off + i * 4 + 2, none⟩ = some (.int .i64 l.to) ∧ w.cell? ⟨b, off + i * 4 + 3, none⟩ = some (.int .u64 l.ds)
theorem LksAt.form {w : World} {v : Value} {ls : List Lk} (h : LksAt w v ls) : ∃ a cap, v = .slice a ls.length cap := by
  rcases h with ⟨a, cap, rfl, rfl⟩ | ⟨b, off, cap, rfl, -⟩
  · exact ⟨a, cap, rfl⟩
  · exact ⟨_, cap, rfl⟩
theorem LksAt.at {w w' : World} {a : Option Addr} {n cap : Nat} {ls : List Lk} (h : LksAt w (.slice a n cap) ls) {i : Nat} {l : Lk} (hi : ls[i]? = some l) (hb : Below w.heap.size w w') :
    ∃ b off, a = some ⟨b, off, none⟩ ∧ w'.cell? ⟨b, off + i * 4, none⟩ = some (.string l.nm) ∧ w'.cell? ⟨b, off + i * 4 + 1, none⟩ = some (.int .i64 l.fr) ∧ w'.cell? ⟨b, off + i * 4 + 2, none⟩ = some (.int .i64 l.to) ∧ w'.cell? ⟨b, off + i * 4 + 3, none⟩ = some (.int .u64 l.ds) := by
  rcases h with ⟨a, cap, -, rfl⟩ | ⟨b, off, cap, e, hlt, hc⟩
  · simp at hi
  · injection e with e
    obtain ⟨h0, h1, h2, h3⟩ := hc i l hi
    exact ⟨b, off, e, (hb.cell (p := ⟨b, off + i * 4, none⟩) hlt).trans h0, (hb.cell (p := ⟨b, off + i * 4 + 1, none⟩) hlt).trans h1, (hb.cell (p := ⟨b, off + i * 4 + 2, none⟩) hlt).trans h2, (hb.cell (p := ⟨b, off + i * 4 + 3, none⟩) hlt).trans h3⟩
theorem LksAt.step {w w' : World} {v : Value} {ls : List Lk} (h : LksAt w v ls) (hb : Below w.heap.size w w') : LksAt w' v ls := by
  rcases h with h | ⟨b, off, cap, e, hlt, hc⟩
  · exact .inl h
  · exact .inr ⟨b, off, cap, e, Nat.lt_of_lt_of_le hlt hb.size, fun i l hi => ⟨(hb.cell (p := ⟨b, off + i * 4, none⟩) hlt).trans (hc i l hi).1, (hb.cell (p := ⟨b, off + i * 4 + 1, none⟩) hlt).trans (hc i l hi).2.1, (hb.cell (p := ⟨b, off + i * 4 + 2, none⟩) hlt).trans (hc i l hi).2.2.1, (hb.cell (p := ⟨b, off + i * 4 + 3, none⟩) hlt).trans (hc i l hi).2.2.2⟩⟩
theorem StrsAt.form {w : World} {v : Value} {rs : List ByteArray} (h : StrsAt w v rs) : ∃ a cap, v = .slice a rs.length cap := by
  rcases h with ⟨a, cap, rfl, rfl⟩ | ⟨b, off, cap, rfl, -⟩
  · exact ⟨a, cap, rfl⟩
  · exact ⟨_, cap, rfl⟩
theorem StrsAt.at {w w' : World} {a : Option Addr} {n cap : Nat} {rs : List ByteArray} (h : StrsAt w (.slice a n cap) rs) {i : Nat} {s : ByteArray} (hi : rs[i]? = some s) (hb : Below w.heap.size w w') :
    ∃ b off, a = some ⟨b, off, none⟩ ∧ w'.cell? ⟨b, off + i, none⟩ = some (.string s) := by
  rcases h with ⟨a, cap, -, rfl⟩ | ⟨b, off, cap, e, hlt, hc⟩
  · simp at hi
  · injection e with e
    obtain ⟨hl, rfl⟩ := List.getElem?_eq_some_iff.1 hi
    have := hc i hl
    rw [List.getD, List.getElem?_eq_getElem hl] at this
    exact ⟨b, off, e, (hb.cell (p := ⟨b, off + i, none⟩) hlt).trans this⟩
structure TpAt (w : World) (vr vl : Value) (rs : List ByteArray) (ls : List Lk) : Prop where
  rs : StrsAt w vr rs
  ls : LksAt w vl ls
theorem TpAt.step {w w' : World} {vr vl : Value} {rs : List ByteArray} {ls : List Lk} (h : TpAt w vr vl rs ls) (hb : Below w.heap.size w w') : TpAt w' vr vl rs ls := ⟨h.rs.keep hb, h.ls.step hb⟩
def idxL (P : Lk → Bool) (ls : List Lk) (k : Nat) : List Int := ((List.range k).filter fun i => (ls[i]?.map P).getD false).map Int.ofNat
theorem idxL_succ {P : Lk → Bool} {ls : List Lk} {k : Nat} {l : Lk} (h : ls[k]? = some l) : idxL P ls (k + 1) = if P l then idxL P ls k ++ [(k : Int)] else idxL P ls k := by
  unfold idxL
  rw [List.range_succ, List.filter_append, List.map_append]
  cases hp : P l <;> simp [h, hp]
theorem hasB_idx (P : Lk → Bool) (ls : List Lk) (j : Nat) : hasB (ofS (idxL P ls ls.length)).1 (ofS (idxL P ls ls.length)).2 j = (decide (j < 128) && (ls[j]?.map P).getD false) := by
  rw [hasB_ofS, Bool.eq_iff_iff]
  simp only [Bool.and_eq_true, decide_eq_true_eq, List.any_eq_true]
  refine and_congr_right fun _ => ⟨?_, fun h => ⟨(j : Int), ?_, rfl⟩⟩
  · rintro ⟨x, hx, e⟩
    unfold idxL at hx
    obtain ⟨i, hi, rfl⟩ := List.mem_map.1 hx
    obtain ⟨-, hp⟩ := List.mem_filter.1 hi
    have : i = j := by have := of_decide_eq_true (decide_eq_true e); simp at this; omega
    subst this
    exact hp
  · unfold idxL
    refine List.mem_map.2 ⟨j, List.mem_filter.2 ⟨List.mem_range.2 ?_, h⟩, rfl⟩
    cases hl : ls[j]? with
    | none => rw [hl] at h; simp at h
    | some l => exact (List.getElem?_eq_some_iff.1 hl).1
set_option maxHeartbeats 1000000 in
theorem out1_any (l : Lk) (r : Int) (C : Nat) (w : World) (hc : w.cell? ⟨C, 0, none⟩ = some (.int .i64 r)) (hlt : C < w.heap.size) :
    Calls Tryz.prog 393 #[lkV l, .pointer (some ⟨C, 0, none⟩)] w fun e w' => e = .returned (.bool (l.fr == r)) ∧ Below w.heap.size w w' := by
  have hb := below_new w (.cells #[.string l.nm, .int .i64 l.fr, .int .i64 l.to, .int .u64 l.ds] 234)
  have hc' := (hb.cell (p := ⟨C, 0, none⟩) hlt).trans hc
  have HB := Lib.hid hb
  clear hb hc
  go_enter Tryz.func393, Tryz.ntmps393
  go_wp2_with fail
  go_ret
  exact ⟨rfl, HB.out⟩
def WhR (w : World) (P : Lk → Bool) (ls : List Lk) (g : Nat) (v : Value) (wr : World) : Prop :=
  ∃ i : Nat, i ≤ ls.length ∧ g = ls.length - i ∧ v = .int .i64 i ∧ SetAt wr (w.heap.size + 1 + 1) (ofS (idxL P ls i)).1 (ofS (idxL P ls i)).2 ∧ SetAt wr (w.heap.size + 1) 0 0 ∧ Below w.heap.size w wr
def whS (P : Lk → Bool) (ls : List Lk) : Nat × Nat := ofS (idxL P ls ls.length)
theorem whS_u64 (P : Lk → Bool) (ls : List Lk) : U64 (whS P ls).1 ∧ U64 (whS P ls).2 := ofS_u64 _
set_option maxRecDepth 100000 in
set_option maxHeartbeats 4000000 in
theorem where_tpOut1 (P : Lk → Bool) (cv : Value) (vr vl : Value) (ls : List Lk) (w : World) (hv : LksAt w vl ls) (hl : ls.length ≤ 1000000)
    (HF : ∀ (l : Lk) (W : World), Below w.heap.size w W → Calls Tryz.prog 393 #[lkV l, cv] W fun e w' => e = .returned (.bool (P l)) ∧ Below W.heap.size W w') :
    Calls Tryz.prog 392 #[.agg #[vr, vl], .func (.func 393) #[] #[cv]] w fun e w' => e = .returned (setV (whS P ls).1 (whS P ls).2) ∧ Below w.heap.size w w' := by
  obtain ⟨a, cap, rfl⟩ := hv.form
  have HV := Lib.hid hv
  have HH := Lib.hid HF
  have hb0 := below_new w (.cells #[vr, .slice a ls.length cap] 99)
  have HS := SW.start (w.alloc (.cells #[vr, .slice a ls.length cap] 99)) 0 0
  rw [World.size_alloc] at HS
  have H0 : Hid (WhR w P ls ls.length (.int .i64 0) (((w.alloc (.cells #[vr, .slice a ls.length cap] 99)).alloc (.cells #[.int .u64 0, .int .u64 0] 43)).alloc (.cells #[.int .u64 0, .int .u64 0] 43))) :=
    Lib.hid ⟨0, Nat.zero_le _, by omega, rfl, HS.res, HS.set, hb0.trans (HS.below.mono hb0.size)⟩
  clear hv HS HF hb0
  go_enter Tryz.func392, Tryz.ntmps392
  go_wp2_with fail
  generalize ((w.alloc (.cells #[vr, .slice a ls.length cap] 99)).alloc (.cells #[.int .u64 0, .int .u64 0] 43)).alloc (.cells #[.int .u64 0, .int .u64 0] 43) = w1 at *
  go_loopg [11] ls.length (fun g u wr => WhR w P ls g u wr)
  case atStart => exact H0.out
  case round =>
    obtain ⟨i, hi, hgi, rfl, hs, hr, hb⟩ := hrel
    by_cases hlt : i < ls.length
    · obtain ⟨l, hx⟩ : ∃ l, ls[i]? = some l := ⟨_, List.getElem?_eq_getElem hlt⟩
      obtain ⟨b, off, rfl, c0, c1, c2, c3⟩ := HV.out.at hx hb
      obtain ⟨u1, u2⟩ := ofS_u64 (idxL P ls i)
      have hbn := below_new wr (.cells #[.string l.nm, .int .i64 l.fr, .int .i64 l.to, .int .u64 l.ds] 234)
      have HF := Lib.hid (HH.out l _ (hb.trans (hbn.mono hb.size)))
      have hs1 := hs.step hbn
      have hr1 := hr.step hbn
      have hb1 := hb.trans (hbn.mono hb.size)
      have hE := idxL_succ (P := P) hx
      have HW := Lib.hid (fun W => with_any _ _ (i : Int) u1 u2 W)
      cases hp : P l with
      | true =>
        rw [hp] at HF
        rw [hp, if_pos rfl] at hE
        have e := (congrArg ofS hE).trans (ofS_snoc _ _)
        have e1 : (ofS (idxL P ls i)).1 ||| (oneW (i : Int)).1 = (ofS (idxL P ls (i + 1))).1 := by rw [e]
        have e2 : (ofS (idxL P ls i)).2 ||| (oneW (i : Int)).2 = (ofS (idxL P ls (i + 1))).2 := by rw [e]
        rw [e1, e2] at HW
        clear e e1 e2 u1 u2 hx hE hp hs hr hb
        generalize (ofS (idxL P ls i)).1 = p at *
        generalize (ofS (idxL P ls i)).2 = q at *
        generalize hp' : (ofS (idxL P ls (i + 1))).1 = p' at *
        generalize hq' : (ofS (idxL P ls (i + 1))).2 = q' at *
        have HP := Lib.hid hp'
        have HQ := Lib.hid hq'
        have HB := Lib.hid hb1
        have HR := Lib.hid hr1
        have HS := Lib.hid hs1
        clear hp' hq' hb1 hr1 hs1 hbn
        go_wp2_with fail
        refine HF.out.mono ?_
        rintro e w2 ⟨rfl, b2⟩
        have hs2 := HS.out.step b2
        have HR2 := Lib.hid (HR.out.step b2)
        have HB2 := Lib.hid (HB.out.trans (b2.mono HB.out.size))
        have k0 := hs2.cells.1
        have k1 := hs2.cells.2.1
        have HS2 := Lib.hid hs2
        clear b2 hs2 HF
        go_wp2_with fail
        refine (HW.out _).mono ?_
        rintro e w3 ⟨rfl, b3⟩
        have hs3 := HS2.out.step b3
        obtain ⟨k0, k1, kf⟩ := hs3.cells
        have k2 := kf 0
        have k3 := kf 1
        have HB3 := HB2.out.trans (b3.mono HB2.out.size)
        have H3 : Hid (WhR w P ls (ls.length - (i + 1)) (.int .i64 ((i : Int) + 1)) ((w3.setCell ⟨w.heap.size + 1 + 1, 0, none⟩ (.int .u64 (p' : Int))).setCell ⟨w.heap.size + 1 + 1, 1, none⟩ (.int .u64 (q' : Int)))) := Lib.hid
          ⟨i + 1, by omega, rfl, by go_num, by rw [HP.out, HQ.out]; exact hs3.put _ _, ((HR2.out.step b3).far (by omega) _ _).far (by omega) _ _,
            (HB3.setCell (p := ⟨w.heap.size + 1 + 1, 0, none⟩) (by simp; omega) _).setCell (p := ⟨w.heap.size + 1 + 1, 1, none⟩) (by simp; omega) _⟩
        clear b3 hs3 kf HW HB3
        go_wp2_with fail
        go_roundg (ls.length - (i + 1))
        case measure => omega
        case rel => exact H3.out
      | false =>
        rw [hp] at HF
        rw [hp, if_neg (by simp)] at hE
        have HE := Lib.hid hE
        have HB := Lib.hid hb1
        have HR := Lib.hid hr1
        have HS := Lib.hid hs1
        clear u1 u2 hx hE hp hs hr hb hb1 hr1 hs1 hbn HW
        go_wp2_with fail
        refine HF.out.mono ?_
        rintro e w2 ⟨rfl, b2⟩
        have H3 : Hid (WhR w P ls (ls.length - (i + 1)) (.int .i64 ((i : Int) + 1)) w2) := Lib.hid
          ⟨i + 1, by omega, rfl, by go_num, by rw [HE.out]; exact HS.out.step b2, HR.out.step b2, HB.out.trans (b2.mono HB.out.size)⟩
        clear b2 HF
        go_wp2_with fail
        go_roundg (ls.length - (i + 1))
        case measure => omega
        case rel => exact H3.out
    · obtain rfl : i = ls.length := by omega
      obtain ⟨k0, k1, -⟩ := hs.cells
      obtain ⟨r0, r1, rf⟩ := hr.cells
      have r2 := rf 0
      have r3 := rf 1
      have HB := Lib.hid hb
      clear hs hr rf hb hlt hi
      generalize hp : (ofS (idxL P ls ls.length)).1 = p at *
      generalize hq : (ofS (idxL P ls ls.length)).2 = q at *
      have HP := Lib.hid hp
      have HQ := Lib.hid hq
      clear hp hq
      go_wp2_with fail
      refine bodyPost_ret (v := setV p q) (by simp [results, Tryz.f392, go_sem, r0, r1]) rfl ⟨by unfold whS; rw [HP.out, HQ.out], ?_⟩
      exact (HB.out.setCell (p := ⟨w.heap.size + 1, 0, none⟩) (Nat.le_succ _) _).setCell (p := ⟨w.heap.size + 1, 1, none⟩) (Nat.le_succ _) _
end Go.Proofs.YtbhkfifmgbcknaaGreatDoor
