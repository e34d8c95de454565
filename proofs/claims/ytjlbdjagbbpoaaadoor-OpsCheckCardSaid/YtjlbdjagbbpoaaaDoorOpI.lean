/-
  Package ops by contracts, seventh part: Check. (Written by genops.py.)
-/
import Derived.Test.YtjlbdjagbbpoaaaDoorOpH
import Derived.Test.YtjlbdjagbbpoaaaDoorReg
import Derived.Test.YtjlbdjagbbpoaaaDoorAwake
namespace Go.Proofs.YtjlbdjagbbpoaaaDoor
open Go.RowKit Go.Extern.Stop Go.Stop Go.Extern

/-- What Check answers. -/
def CheckPost (ks : List Int) (top : Int) (c : List (Int × Int)) (w : World) (e : Ending) (w' : World) : Prop :=
  ∃ v, e = .returned v ∧ ((chkE ks top c).1 = 0 → v = .nilIface ∧ (chkE ks top c).2 = 0) ∧ ((chkE ks top c).1 ≠ 0 → ∃ b, ChainAt w' (.fault b (chkE ks top c).1 (chkE ks top c).2) [] v) ∧ Below w.heap.size w w'
theorem fault_post {ks : List Int} {top : Int} {c : List (Int × Int)} {w w1 : World} {code a : Int} (he : chkE ks top c = (code, a)) (hc : code ≠ 0) (hb : Below w.heap.size w w1) :
    CheckPost ks top c w (.returned (.iface 86 (.pointer (some ⟨w1.heap.size, 0, none⟩)))) (w1.alloc (.cells #[.int .i64 code, .int .i64 a] 89)) :=
  ⟨_, rfl, fun h => absurd (by rw [he] at h; exact h) hc, fun _ => ⟨w1.heap.size, by rw [he]; exact new_chain code a w1⟩, hb.alloc hb.size _⟩
def CR (ks : List Int) (top : Int) (c : List (Int × Int)) (w : World) (g : Nat) (u mv : Value) (wr : World) : Prop :=
  ∃ (i m : Nat) (rest : List Nat), i ≤ c.length ∧ g = c.length - i ∧ u = .int .i64 i ∧ (∀ x ∈ m :: rest, x < 16) ∧ chkE ks top c = chkL ks (c.drop i) i (m :: rest) ∧ rest.length ≤ i ∧
    wr.ownsRow w.heap.size 34 2 mv (rest.length + 1) (setCells (m :: rest).reverse) ∧ Below w.heap.size w wr
theorem chkL_cons (ks : List Int) (o : Int × Int) (c : List (Int × Int)) (i m : Nat) (rest : List Nat) : chkL ks (o :: c) i (m :: rest) =
    if knownB ks o = true then (if m &&& topsW o.1 (kindI ks o.2) = 0 then (9, (i : Int)) else chkL ks c (i + 1) (guessL o.1 (kindI ks o.2) ((m &&& topsW o.1 (kindI ks o.2)) :: rest))) else (2, (i : Int)) := rfl
theorem guessL_eq (o lk : Int) (m : Nat) (rest : List Nat) : guessL o lk (m :: rest) = if o = 3 then oneK lk :: m :: rest else if o = 1 then (if rest = [] then [underW m] else rest) else m :: rest := rfl
theorem guessL_small {o lk : Int} (hk : 0 ≤ lk ∧ lk ≤ 3) {m : Nat} {rest : List Nat} (h : ∀ x ∈ m :: rest, x < 16) : ∀ x ∈ guessL o lk (m :: rest), x < 16 := by
  intro x hx
  rw [guessL_eq] at hx
  by_cases h3 : o = 3
  · rw [if_pos h3] at hx
    rcases List.mem_cons.1 hx with rfl | hx
    · exact oneK_lt hk
    · exact h x hx
  · rw [if_neg h3] at hx
    by_cases h1 : o = 1
    · rw [if_pos h1] at hx
      by_cases hr : rest = []
      · rw [if_pos hr, List.mem_singleton] at hx
        subst hx
        exact (under_bits m (h m (by simp))).2.1
      · rw [if_neg hr] at hx
        exact h x (List.mem_cons_of_mem _ hx)
    · rw [if_neg h1] at hx
      exact h x hx
theorem guessL_cons {o lk : Int} {m : Nat} {rest : List Nat} : ∃ m' r', guessL o lk (m :: rest) = m' :: r' ∧ r'.length ≤ rest.length + 1 := by
  rw [guessL_eq]
  by_cases h3 : o = 3
  · rw [if_pos h3]
    exact ⟨_, _, rfl, by simp⟩
  · rw [if_neg h3]
    by_cases h1 : o = 1
    · rw [if_pos h1]
      cases rest with
      | nil => exact ⟨_, _, rfl, by simp⟩
      | cons a r => exact ⟨a, r, rfl, by simp; omega⟩
    · rw [if_neg h1]
      exact ⟨_, _, rfl, by omega⟩

set_option maxRecDepth 100000 in
set_option maxHeartbeats 8000000 in
theorem opCheck_any (ks : List Int) (top : Int) (c : List (Int × Int)) (vk vc : Value) (w : World) (hk : IntsAt w vk ks) (hc : OpsAt w vc c) (ht : TabB w) :
    Calls Tryd.prog 37 #[vk, .int .i64 top, vc] w (CheckPost ks top c w) := by
  have HK := Lib.hid hk
  have HC := Lib.hid hc
  have HT := Lib.hid ht
  obtain ⟨ac, capc, rfl⟩ := hc.form
  obtain ⟨kt, hkt⟩ : ∃ k, KV ks top k := ⟨_, rfl⟩
  have HKt := Lib.hid ((kind_kv ks vk top kt w hk hkt).mono fun _ w2 h => (⟨h.1, h.2.symm⟩ : _ ∧ w = w2))
  have hkr := kindI_range ks top
  rw [show kindI ks top = kt from hkt] at hkr
  clear hk hc ht
  by_cases h0 : kt = 0
  · subst h0
    have hE : chkE ks top c = (2, -1) := by unfold chkE; rw [if_pos (show kindI ks top = 0 from hkt)]
    have HP := Lib.hid (fault_post hE (by omega) (Below.refl _ w))
    have HN := Lib.hid (new_any 2 (-1) (by decide) w)
    clear hE hkt hkr
    go_enter Tryd.func37, Tryd.ntmps37
    go_wp2_with fail
    refine HKt.out.mono ?_
    rintro e w1 ⟨rfl, rfl⟩
    go_wp2_with fail
    refine HN.out.mono ?_
    rintro e w1 ⟨rfl, rfl⟩
    go_wp2_with fail
    go_ret
    exact HP.out
  have q0 : (kt == 0) = false := by simpa using h0
  by_cases h8 : 8 < c.length
  · have q8 : (8 : Int) < c.length := by omega
    have hE : chkE ks top c = (6, 8) := by unfold chkE; rw [if_neg (by rw [show kindI ks top = kt from hkt]; exact h0), if_pos h8]
    have HP := Lib.hid (fault_post hE (by omega) (Below.refl _ w))
    have HN := Lib.hid (new_any 6 8 (by decide) w)
    clear hE hkt hkr h0
    go_enter Tryd.func37, Tryd.ntmps37
    go_wp2_with fail
    refine HKt.out.mono ?_
    rintro e w1 ⟨rfl, rfl⟩
    go_wp2_with fail
    refine HN.out.mono ?_
    rintro e w1 ⟨rfl, rfl⟩
    go_wp2_with fail
    go_ret
    exact HP.out
  have q8 : ¬ (8 : Int) < c.length := by omega
  have hE : chkE ks top c = chkL ks c 0 [oneK kt] := by unfold chkE; rw [if_neg (by rw [show kindI ks top = kt from hkt]; exact h0), if_neg h8, show kindI ks top = kt from hkt]
  have HE := Lib.hid hE
  have hi1 := ints_new w kt
  have hO1 := of_any [kt] _ _ hi1 (by simp)
  rw [ofS_one hkr] at hO1
  have HOf := Lib.hid hO1
  have HBi := Lib.hid (below_new w (.cells #[.int .i64 kt] 3))
  have hsm := oneK_lt hkr
  obtain ⟨m0, hm0⟩ : ∃ m0, oneK kt = m0 := ⟨_, rfl⟩
  rw [hm0] at HOf HE hsm
  clear hE hkt hkr h0 hi1 hO1 hm0
  go_enter Tryd.func37, Tryd.ntmps37
  go_wp2_with fail
  refine HKt.out.mono ?_
  rintro e w1 ⟨rfl, rfl⟩
  go_wp2_with fail
  refine HOf.out.mono ?_
  rintro e w2 ⟨rfl, b2⟩
  have hb2 : Below w.heap.size w w2 := HBi.out.trans (b2.mono HBi.out.size)
  have H0 : Hid (CR ks top c w c.length (.int .i64 0) (.slice (some ⟨w2.heap.size, 0, none⟩) 1 1) (w2.alloc (.cells #[.int .u64 (m0 : Int), .int .u64 0] 34))) := Lib.hid
    ⟨0, m0, [], Nat.zero_le _, by omega, rfl, fun x hx => (by rw [List.mem_singleton] at hx; rw [hx]; exact hsm), HE.out, Nat.le_refl _, World.ownsRow_lit w2 #[.int .u64 (m0 : Int), .int .u64 0] 1 hb2.size (by unfold maxLen; omega) rfl, hb2.alloc hb2.size _⟩
  clear hb2 b2 HE hsm
  go_wp2_with fail
  go_loopg [28, 8] c.length (fun g u mv wr => CR ks top c w g u mv wr)
  case atStart => exact H0.out
  case round =>
    obtain ⟨i, m, rest, hi, hgi, rfl, hsm, hchk, hrl, hown, hb⟩ := hrel
    have HB := Lib.hid hb
    by_cases hlt : i < c.length
    · obtain ⟨o, ho⟩ : ∃ o, c[i]? = some o := ⟨_, List.getElem?_eq_getElem hlt⟩
      obtain ⟨b, off, rfl, p0, p1⟩ := HC.out.at ho hb
      have hdrop : c.drop i = o :: c.drop (i + 1) := by
        obtain ⟨hi', rfl⟩ := List.getElem?_eq_some_iff.1 ho
        exact List.drop_eq_getElem_cons hi'
      rw [hdrop, chkL_cons] at hchk
      obtain ⟨o1, o2⟩ := o
      simp only at hchk
      have hb1 := below_new wr (.cells #[.int .i64 o1, .int .i64 o2] 60)
      have hB1 := hb.trans (hb1.mono hb.size)
      have HB1 := Lib.hid hB1
      have HKn := Lib.hid (known_any ks vk o1 o2 _ (HK.out.step hB1))
      have HN := Lib.hid (heap_alloc_new wr (.cells #[.int .i64 o1, .int .i64 o2] 60))
      have HO1 := Lib.hid (hown.alloc (.cells #[.int .i64 o1, .int .i64 o2] 60))
      cases hkn : knownB ks (o1, o2) with
      | false =>
        rw [hkn] at HKn
        have hE : chkE ks top c = (2, (i : Int)) := by rw [hchk, hkn]; rfl
        have HNw := Lib.hid (fun w' => new_any 2 (i : Int) (by decide) w')
        have HP := Lib.hid (fun (w' : World) (hb : Below w.heap.size w w') => fault_post hE (by omega) hb)
        clear hE hchk hkn hown hb hdrop ho hsm hb1 hB1
        go_wp2_with fail
        refine HKn.out.mono ?_
        rintro e w4 ⟨rfl, b4⟩
        have HB4 := Lib.hid (HB1.out.trans (b4.mono HB1.out.size))
        clear b4
        go_wp2_with fail
        refine (HNw.out _).mono ?_
        rintro e w5 ⟨rfl, rfl⟩
        go_wp2_with fail
        go_ret
        exact HP.out _ HB4.out
      | true =>
        rw [hkn] at HKn hchk
        simp only [if_true] at hchk
        have hok := known_kind hkn
        have hlr := kindI_range ks o2
        have hTm : m &&& topsW o1 (kindI ks o2) < 16 := Nat.lt_of_le_of_lt Nat.and_le_left (hsm m (by simp))
        have hum : U64 m := by have := hsm m (by simp); unfold U64; omega
        have HTp := Lib.hid (fun w' (hb : Below w.heap.size w w') => tops_any ks vk o1 o2 w' (HK.out.step hb))
        have HAn := Lib.hid (fun w' => and_any m 0 (topsW o1 (kindI ks o2)) 0 hum zero_u64 (topsW_u64 hlr) zero_u64 w')
        have hsm2 : ∀ x ∈ (m &&& topsW o1 (kindI ks o2)) :: rest, x < 16 := fun x hx => by
          rcases List.mem_cons.1 hx with rfl | hx
          · exact hTm
          · exact hsm x (List.mem_cons_of_mem _ hx)
        have HSm := Lib.hid (guessL_small (o := o1) hlr hsm2)
        have HGc := Lib.hid (guessL_cons (o := o1) (lk := kindI ks o2) (m := m &&& topsW o1 (kindI ks o2)) (rest := rest))
        have HGu := Lib.hid (fun (v : Value) (w' : World) (hb : Below w.heap.size w w') (hown : w'.ownsRow w.heap.size 34 2 v (rest.length + 1) (setCells ((m &&& topsW o1 (kindI ks o2)) :: rest).reverse)) => guessed_any ks vk v o1 o2 (m &&& topsW o1 (kindI ks o2)) rest w.heap.size w' (HK.out.step hb) hown hb.size hTm (by omega) (HT.out.below HT.out.lt hb) hok)
        obtain ⟨g, cap, rfl⟩ := ownsRow_succ hown
        have hgl := hown.lt g rfl
        have HGL := Lib.hid hgl
        have HCk := Lib.hid hchk
        clear hown hb hdrop ho hsm hb1 hB1 hkn hlr hsm2 hum hchk
        obtain ⟨lk, hlk⟩ : ∃ lk, kindI ks o2 = lk := ⟨_, rfl⟩
        obtain ⟨tw, htw⟩ : ∃ tw, topsW o1 lk = tw := ⟨_, rfl⟩
        obtain ⟨mm, hmm⟩ : ∃ mm, m &&& tw = mm := ⟨_, rfl⟩
        have hz : (0 : Nat) &&& 0 = 0 := rfl
        simp only [hlk, htw, hmm, hz] at HTp HAn HSm HGc HGu HCk hTm
        clear hlk htw hmm hz
        have e1 : ((rest.length + 1 : Nat) : Int) - 1 = (rest.length : Int) := by omega
        have j0 : (0 : Int) ≤ (rest.length : Int) := by omega
        have j1 : (rest.length : Int) < ((rest.length + 1 : Nat) : Int) := by omega
        have j1' : (rest.length : Int) < (rest.length : Int) + 1 := by omega
        go_wp2_with fail
        refine HKn.out.mono ?_
        rintro e w4 ⟨rfl, b4⟩
        have hB4 := HB1.out.trans (b4.mono HB1.out.size)
        have HO4 := Lib.hid (ownsRow_below_up HO1.out b4)
        have hn4 := (b4.block _ (Array.getElem?_eq_some_iff.1 HN.out).1).trans HN.out
        have HN4 := Lib.hid hn4
        have hq4 : wr.heap.size < w4.heap.size := (Array.getElem?_eq_some_iff.1 hn4).1
        have hg4 : g < wr.heap.size := HGL.out.2
        have k0 : w4.cell? ⟨wr.heap.size, 0, none⟩ = some (.int .i64 o1) := by rw [Lib.cell_of_heap hn4]; rfl
        have k1 : w4.cell? ⟨wr.heap.size, 1, none⟩ = some (.int .i64 o2) := by rw [Lib.cell_of_heap hn4]; rfl
        have hc4 : w4.cell? ⟨g, rest.length * 2, none⟩ = some (.int .u64 (m : Int)) ∧ w4.cell? ⟨g, rest.length * 2 + 1, none⟩ = some (.int .u64 0) := by
          exact may_cells HO4.out
        obtain ⟨c0, c1⟩ := hc4
        have HQ := Lib.hid hq4
        clear b4 hn4 hq4 HKn HO1 HN
        generalize wr.heap.size = q at *
        go_wp2_with fail
        refine region_T (fun w' : World => (w'.cell? ⟨g, rest.length * 2, none⟩ = some (.int .u64 (m : Int)) ∧ w'.cell? ⟨g, rest.length * 2 + 1, none⟩ = some (.int .u64 0)) ∧ w'.cell? ⟨q, 0, none⟩ = some (.int .i64 o1) ∧ w'.cell? ⟨q, 1, none⟩ = some (.int .i64 o2)) 10 (by kernel_rfl) ?_
        have hS0 : (fun w' : World => (w'.cell? ⟨g, rest.length * 2, none⟩ = some (.int .u64 (m : Int)) ∧ w'.cell? ⟨g, rest.length * 2 + 1, none⟩ = some (.int .u64 0)) ∧ w'.cell? ⟨q, 0, none⟩ = some (.int .i64 o1) ∧ w'.cell? ⟨q, 1, none⟩ = some (.int .i64 o2)) w4.drew := ⟨⟨c0, c1⟩, k0, k1⟩
        refine wpT_take (i := 0) (v := .slice (some ⟨g, 0, none⟩) (rest.length + 1) cap) rfl (by kernel_rfl) (by kernel_rfl) (by kernel_rfl) (by kernel_rfl) (by kernel_rfl) (by kernel_rfl) (by kernel_rfl) (by kernel_rfl) (fun _ _ _ h => h) (Or.inl ⟨by rfl, ?_⟩) hS0 ?_
        · rintro w' -
          go_simp
        try simp only [Act.put]
        refine wpT_take (i := 1) (v := .int .i64 (rest.length : Int)) rfl (by kernel_rfl) (by kernel_rfl) (by kernel_rfl) (by kernel_rfl) (by kernel_rfl) (by kernel_rfl) (by kernel_rfl) (by kernel_rfl) (fun _ _ _ h => h) (Or.inl ⟨by rfl, ?_⟩) hS0 ?_
        · rintro w' -
          go_simp
        try simp only [Act.put]
        refine wpT_take (i := 2) (v := .slice (some ⟨g, 0, none⟩) (rest.length + 1) cap) rfl (by kernel_rfl) (by kernel_rfl) (by kernel_rfl) (by kernel_rfl) (by kernel_rfl) (by kernel_rfl) (by kernel_rfl) (by kernel_rfl) (fun _ _ _ h => h) (Or.inl ⟨by rfl, ?_⟩) hS0 ?_
        · rintro w' -
          go_simp
        try simp only [Act.put]
        refine wpT_take (i := 3) (v := .int .i64 (rest.length : Int)) rfl (by kernel_rfl) (by kernel_rfl) (by kernel_rfl) (by kernel_rfl) (by kernel_rfl) (by kernel_rfl) (by kernel_rfl) (by kernel_rfl) (fun _ _ _ h => h) (Or.inl ⟨by rfl, ?_⟩) hS0 ?_
        · rintro w' -
          go_simp
        try simp only [Act.put]
        refine wpT_take (i := 4) (v := .pointer (some ⟨g, rest.length * 2, none⟩)) rfl (by kernel_rfl) (by kernel_rfl) (by kernel_rfl) (by kernel_rfl) (by kernel_rfl) (by kernel_rfl) (by kernel_rfl) (by kernel_rfl) (fun _ _ _ h => h) (Or.inl ⟨by rfl, ?_⟩) hS0 ?_
        · rintro w' -
          go_simp
        try simp only [Act.put]
        refine wpT_take (i := 5) (v := .agg #[.int .u64 (m : Int), .int .u64 0]) rfl (by kernel_rfl) (by kernel_rfl) (by kernel_rfl) (by kernel_rfl) (by kernel_rfl) (by kernel_rfl) (by kernel_rfl) (by kernel_rfl) (fun _ _ _ h => h) (Or.inl ⟨by rfl, ?_⟩) hS0 ?_
        · rintro w' ⟨⟨s0, s1⟩, -⟩
          go_simp
        try simp only [Act.put]
        refine wpT_take (i := 6) (v := vk) rfl (by kernel_rfl) (by kernel_rfl) (by kernel_rfl) (by kernel_rfl) (by kernel_rfl) (by kernel_rfl) (by kernel_rfl) (by kernel_rfl) (fun _ _ _ h => h) (Or.inl ⟨by rfl, ?_⟩) hS0 ?_
        · rintro w' -
          go_simp
        try simp only [Act.put]
        refine wpT_take (i := 7) (v := .agg #[.int .i64 o1, .int .i64 o2]) rfl (by kernel_rfl) (by kernel_rfl) (by kernel_rfl) (by kernel_rfl) (by kernel_rfl) (by kernel_rfl) (by kernel_rfl) (by kernel_rfl) (fun _ _ _ h => h) (Or.inl ⟨by rfl, ?_⟩) hS0 ?_
        · rintro w' ⟨-, s2, s3⟩
          go_simp
        try simp only [Act.put]
        refine wpT_one (i := 8) (by kernel_rfl) rfl ?_
        intro KK hKK
        go_simp
        refine (HTp.out _ hB4.drew).mono ?_
        rintro e w5 ⟨rfl, b5⟩
        have hB5 := hB4.drew.trans (b5.mono hB4.size)
        have hO5 := ownsRow_below_up HO4.out ((Below.refl w4.heap.size w4).drew.trans b5)
        have hn5 := (((Below.refl w4.heap.size w4).drew.trans b5).block _ (Array.getElem?_eq_some_iff.1 HN4.out).1).trans HN4.out
        have hS5 : (fun w' : World => (w'.cell? ⟨g, rest.length * 2, none⟩ = some (.int .u64 (m : Int)) ∧ w'.cell? ⟨g, rest.length * 2 + 1, none⟩ = some (.int .u64 0)) ∧ w'.cell? ⟨q, 0, none⟩ = some (.int .i64 o1) ∧ w'.cell? ⟨q, 1, none⟩ = some (.int .i64 o2)) w5 := ⟨may_cells hO5, by rw [Lib.cell_of_heap hn5]; rfl, by rw [Lib.cell_of_heap hn5]; rfl⟩
        refine hKK _ _ ⟨fun _ => hS5, ?_⟩
        clear hKK hS0
        try simp only [Act.put]
        refine wpT_one (i := 9) (by kernel_rfl) rfl ?_
        intro KK hKK
        go_simp
        refine (HAn.out _).mono ?_
        rintro e w6 ⟨rfl, b6⟩
        have hB6 := hB5.trans (b6.mono hB5.size)
        have hO6 := ownsRow_below_up hO5 b6
        have hn6 := (b6.block _ (Array.getElem?_eq_some_iff.1 hn5).1).trans hn5
        have hS6 : (fun w' : World => (w'.cell? ⟨g, rest.length * 2, none⟩ = some (.int .u64 (m : Int)) ∧ w'.cell? ⟨g, rest.length * 2 + 1, none⟩ = some (.int .u64 0)) ∧ w'.cell? ⟨q, 0, none⟩ = some (.int .i64 o1) ∧ w'.cell? ⟨q, 1, none⟩ = some (.int .i64 o2)) w6 := ⟨may_cells hO6, by rw [Lib.cell_of_heap hn6]; rfl, by rw [Lib.cell_of_heap hn6]; rfl⟩
        refine hKK _ _ ⟨fun _ => hS6, ?_⟩
        clear hKK hS5
        try simp only [Act.put]
        refine wpT_tail 10 2 rfl rfl (by kernel_rfl) (by kernel_rfl) ?_
        obtain ⟨⟨d0, d1⟩, d2, d3⟩ := hS6
        have df0 := hO6.frozenAt (rest.length * 2)
        have df1 := hO6.frozenAt (rest.length * 2 + 1)
        have hO7 : ((w6.setCell ⟨g, rest.length * 2, none⟩ (.int .u64 (mm : Int))).setCell ⟨g, rest.length * 2 + 1, none⟩ (.int .u64 0)).ownsRow w.heap.size 34 2 (.slice (some ⟨g, 0, none⟩) (rest.length + 1) cap) (rest.length + 1) (setCells (mm :: rest).reverse) := by
          have h1 := (hO6.stored (rest.length * 2) (.int .u64 (mm : Int))).1
          have h2 := (h1.stored (rest.length * 2 + 1) (.int .u64 0)).1
          have hl : (setCells rest.reverse).length = rest.length * 2 := by rw [setCells_length]; simp
          have e : ((setCells (m :: rest).reverse).set (rest.length * 2) (.int .u64 (mm : Int))).set (rest.length * 2 + 1) (.int .u64 0) = setCells (mm :: rest).reverse := by
            rw [setCells_rev, setCells_rev, List.set_append_right _ _ (by omega), hl, Nat.sub_self, List.set_append_right _ _ (by omega), hl, show rest.length * 2 + 1 - rest.length * 2 = 1 by omega]
            rfl
          rwa [e] at h2
        have hB7 := (hB6.setCell (p := ⟨g, rest.length * 2, none⟩) HGL.out.1 (.int .u64 (mm : Int))).setCell (p := ⟨g, rest.length * 2 + 1, none⟩) HGL.out.1 (.int .u64 0)
        have hgq : g ≠ q := by omega
        have hn7 : ((w6.setCell ⟨g, rest.length * 2, none⟩ (.int .u64 (mm : Int))).setCell ⟨g, rest.length * 2 + 1, none⟩ (.int .u64 0)).heap[q]? = some (.cells #[.int .i64 o1, .int .i64 o2] 60 (0, 0)) :=
          ((heap_setCell_other _ _ _ _ (by show q ≠ g; omega)).trans (heap_setCell_other _ _ _ _ (by show q ≠ g; omega))).trans hn6
        have HO7 := Lib.hid hO7
        have HB7 := Lib.hid hB7
        have HN7 := Lib.hid hn7
        clear hO7 hB7 hn7 hn6 hO6 hB6 b6 hn5 hO5 hB5 b5 hB4 HO4 HN4 HQ
        go_wp2_with fail
        generalize (w6.setCell ⟨g, rest.length * 2, none⟩ (.int .u64 (mm : Int))).setCell ⟨g, rest.length * 2 + 1, none⟩ (.int .u64 0) = w7 at *
        have HEm := Lib.hid (empty_any mm 0 w7)
        by_cases hz : mm = 0
        · have hE : chkE ks top c = (9, (i : Int)) := by rw [HCk.out, if_pos hz]
          have hem : emptyB mm 0 = true := by unfold emptyB; simp [hz]
          rw [hem] at HEm
          have HNw := Lib.hid (fun w' => new_any 9 (i : Int) (by decide) w')
          have HP := Lib.hid (fun (w' : World) (hb : Below w.heap.size w w') => fault_post hE (by omega) hb)
          clear hE hem hz HGu HGc HSm
          refine HEm.out.mono ?_
          rintro e w8 ⟨rfl, b8⟩
          have HB8 := Lib.hid (HB7.out.trans (b8.mono HB7.out.size))
          clear b8
          go_wp2_with fail
          refine (HNw.out _).mono ?_
          rintro e w9 ⟨rfl, rfl⟩
          go_wp2_with fail
          go_ret
          exact HP.out _ HB8.out
        · have hem : emptyB mm 0 = false := by unfold emptyB; simp [hz]
          rw [hem] at HEm
          have HCn : Hid (chkE ks top c = chkL ks (c.drop (i + 1)) (i + 1) (guessL o1 lk (mm :: rest))) := Lib.hid (by rw [HCk.out, if_neg hz])
          clear hem hz
          refine HEm.out.mono ?_
          rintro e w8 ⟨rfl, b8⟩
          have HB8 := Lib.hid (HB7.out.trans (b8.mono HB7.out.size))
          have HO8 := Lib.hid (ownsRow_below_up HO7.out b8)
          have hn8 := (b8.block _ (Array.getElem?_eq_some_iff.1 HN7.out).1).trans HN7.out
          have r0 : w8.cell? ⟨q, 0, none⟩ = some (.int .i64 o1) := by rw [Lib.cell_of_heap hn8]; rfl
          have r1 : w8.cell? ⟨q, 1, none⟩ = some (.int .i64 o2) := by rw [Lib.cell_of_heap hn8]; rfl
          clear b8 hn8
          go_wp2_with fail
          refine (HGu.out _ _ HB8.out HO8.out).mono ?_
          rintro e w9 ⟨v9, rfl, hown9, b9⟩
          have HR9 : Hid (CR ks top c w (c.length - (i + 1)) (.int .i64 ((i : Int) + 1)) v9 w9) := Lib.hid (by
            obtain ⟨m', r', hg, hrl'⟩ := HGc.out
            have hs9 := HSm.out
            have hc9 := HCn.out
            rw [hg] at hown9 hs9 hc9
            exact ⟨i + 1, m', r', by omega, rfl, by go_num, hs9, hc9, by omega, hown9, HB8.out.trans b9⟩)
          clear hown9 b9
          go_wp2_with fail
          go_roundg (c.length - (i + 1))
          case measure => omega
          case rel => exact HR9.out
    · obtain rfl : i = c.length := by omega
      have hE : chkE ks top c = (0, 0) := by rw [hchk, List.drop_length]; rfl
      have HE2 := Lib.hid hE
      clear hE hchk hown hb hsm
      go_wp2_with fail
      go_ret
      exact ⟨_, rfl, fun _ => ⟨rfl, by rw [HE2.out]⟩, fun h => absurd (by rw [HE2.out]) h, HB.out⟩
end Go.Proofs.YtjlbdjagbbpoaaaDoor
