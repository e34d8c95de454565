/-
  A part of the proof of the statement NfaAccepts.
-/
import Derived.Test.YtbhkfifmgbcknaaGreatDoorG37
import Derived.Test.YtbhkfifmgbcknaaGreatDoorExMb
import Derived.Test.YtbhkfifmgbcknaaGreatDoorG36
import Derived.Test.YtbhkfifmgbcknaaGreatDoorG04
import Derived.Test.YtbhkfifmgbcknaaGreatDoorG31
import Derived.Deep.AppendLies
set_option linter.unusedSimpArgs false
set_option linter.unusedVariables false
namespace Go.Proofs.YtbhkfifmgbcknaaGreatDoor
open Go.RowKit Go.Extern.Stop Go.Stop Go.Extern
theorem haveL_mem {l : List Int} {i x : Int} : x ∈ haveL l i ↔ x ∈ l ∨ x = i := by
  unfold haveL
  split
  · rename_i h
    have hi := hasL_iffE.1 h
    exact ⟨.inl, fun h => h.elim id (fun e => e ▸ hi)⟩
  · simp
theorem rst1_mem {ons : List (List Int)} {x : Int} : ∀ {ks nx : List Int} {k : Int}, k ∈ rst1 ons x nx ks ↔ k ∈ nx ∨ (k ∈ ks ∧ hasL (onAt ons k) x = true)
  | [], nx, k => by simp [rst1]
  | z :: ks, nx, k => by
    have e : rst1 ons x nx (z :: ks) = rst1 ons x (if hasL (onAt ons z) x then haveL nx z else nx) ks := rfl
    rw [e, rst1_mem]
    cases hq : hasL (onAt ons z) x with
    | true =>
      rw [if_pos rfl, haveL_mem, List.mem_cons]
      constructor
      · rintro ((h | rfl) | h)
        · exact .inl h
        · exact .inr ⟨.inl rfl, hq⟩
        · exact .inr ⟨.inr h.1, h.2⟩
      · rintro (h | ⟨rfl | h, h2⟩)
        · exact .inl (.inl h)
        · exact .inl (.inr rfl)
        · exact .inr ⟨h, h2⟩
    | false =>
      rw [if_neg (by simp), List.mem_cons]
      constructor
      · rintro (h | h)
        · exact .inl h
        · exact .inr ⟨.inr h.1, h.2⟩
      · rintro (h | ⟨rfl | h, h2⟩)
        · exact .inl h
        · rw [hq] at h2; cases h2
        · exact .inr ⟨h, h2⟩
theorem rst2_mem {ons nxs : List (List Int)} {x : Int} : ∀ {al nx : List Int} {k : Int}, k ∈ rst2 ons nxs x nx al ↔ k ∈ nx ∨ ∃ i, i ∈ al ∧ k ∈ onAt nxs i ∧ hasL (onAt ons k) x = true
  | [], nx, k => by simp [rst2]
  | z :: al, nx, k => by
    have e : rst2 ons nxs x nx (z :: al) = rst2 ons nxs x (rst1 ons x nx (onAt nxs z)) al := rfl
    rw [e, rst2_mem, rst1_mem]
    constructor
    · rintro ((h | h) | ⟨i, h1, h2⟩)
      · exact .inl h
      · exact .inr ⟨z, by simp, h⟩
      · exact .inr ⟨i, by simp [h1], h2⟩
    · rintro (h | ⟨i, h1, h2⟩)
      · exact .inl (.inl h)
      · rcases List.mem_cons.1 h1 with rfl | h1
        · exact .inl (.inr h2)
        · exact .inr ⟨i, h1, h2⟩
def SameS (l m : List Int) : Prop := ∀ x, x ∈ l ↔ x ∈ m
theorem SameS.rst2 {ons nxs : List (List Int)} {x : Int} {l m : List Int} (h : SameS l m) : SameS (rst2 ons nxs x [] l) (rst2 ons nxs x [] m) := fun k => by
  rw [rst2_mem, rst2_mem]
  constructor
  · rintro (h1 | ⟨i, h1, h2⟩)
    · exact .inl h1
    · exact .inr ⟨i, (h i).1 h1, h2⟩
  · rintro (h1 | ⟨i, h1, h2⟩)
    · exact .inl h1
    · exact .inr ⟨i, (h i).2 h1, h2⟩
theorem SameS.any {l m : List Int} (h : SameS l m) (f : Int → Bool) : l.any f = m.any f := by
  rw [Bool.eq_iff_iff, List.any_eq_true, List.any_eq_true]
  constructor
  · rintro ⟨x, h1, h2⟩; exact ⟨x, (h x).1 h1, h2⟩
  · rintro ⟨x, h1, h2⟩; exact ⟨x, (h x).2 h1, h2⟩
theorem Sts.rst1 {n : Nat} {ons : List (List Int)} {x : Int} : ∀ {ks nx : List Int}, Sts n nx → (∀ k ∈ ks, InN n k) → Sts n (Go.Proofs.YtbhkfifmgbcknaaGreatDoor.rst1 ons x nx ks)
  | [], nx, h, _ => h
  | z :: ks, nx, h, hk => by
    have e : Go.Proofs.YtbhkfifmgbcknaaGreatDoor.rst1 ons x nx (z :: ks) = Go.Proofs.YtbhkfifmgbcknaaGreatDoor.rst1 ons x (if hasL (onAt ons z) x then haveL nx z else nx) ks := rfl
    rw [e]
    refine Sts.rst1 ?_ fun k hk' => hk k (List.mem_cons_of_mem _ hk')
    split
    · exact h.have (hk z (List.mem_cons_self ..))
    · exact h
theorem Sts.rst2 {n : Nat} {ons nxs : List (List Int)} {x : Int} (hu : ∀ l ∈ nxs, ∀ x ∈ l, InN n x) : ∀ {al nx : List Int}, Sts n nx → Sts n (Go.Proofs.YtbhkfifmgbcknaaGreatDoor.rst2 ons nxs x nx al)
  | [], nx, h => h
  | z :: al, nx, h => by
    have e : Go.Proofs.YtbhkfifmgbcknaaGreatDoor.rst2 ons nxs x nx (z :: al) = Go.Proofs.YtbhkfifmgbcknaaGreatDoor.rst2 ons nxs x (Go.Proofs.YtbhkfifmgbcknaaGreatDoor.rst1 ons x nx (onAt nxs z)) al := rfl
    rw [e]
    refine Sts.rst2 hu (h.rst1 fun k hk => ?_)
    unfold onAt at hk
    cases hz : nxs[z.toNat]? with
    | none => rw [hz] at hk; cases hk
    | some l => rw [hz] at hk; exact hu l (List.mem_of_getElem? hz) k hk
theorem Sts.perm {n : Nat} {l m : List Int} (h : Sts n l) (hp : m.Perm l) : Sts n m := ⟨hp.nodup_iff.2 h.1, fun x hx => h.2 x (hp.mem_iff.1 hx)⟩
end Go.Proofs.YtbhkfifmgbcknaaGreatDoor
namespace Go.Proofs.YtbhkfifmgbcknaaGreatDoor
open Go.RowKit Go.Extern.Stop Go.Stop Go.Extern
set_option maxRecDepth 100000 in
set_option maxHeartbeats 4000000 in
theorem indexLast_any (vo vn : Value) (fa : Option Addr) (fc : Nat) (fs : List Bool) (B : Nat) (l : List Int) (a : Option Addr) (c : Nat) (w : World) (hl : l.length ≤ 1000) (hp : IntsAt w (.slice a l.length c) l) (hin : ∀ x ∈ l, InN fs.length x) (hf : BoolsAt w (.slice fa fs.length fc) fs)
    (hB : w.heap[B]? = some (.cells #[vo, vn, .slice fa fs.length fc] 26 (0, 0))) :
    Calls Tryz.prog 47 #[.slice a l.length c, .func (.func 28) #[] #[.pointer (some ⟨B, 0, none⟩)]] w fun e w' => ∃ i : Int, e = .returned (.int .i64 i) ∧ decide (i ≥ 0) = l.any (lastB fs) ∧ w' = w := by
  have HP := Lib.hid hp
  have HI := Lib.hid hin
  have HC := Lib.hid (fun (i : Nat) (c : Bool) (h : fs[i]? = some c) => nlast_any i c B vo vn fa fc fs w hf h hB)
  clear hp hB hin hf
  go_enter Tryz.func47, Tryz.ntmps47
  go_wp2_with fail
  go_loopg [8] l.length (fun g v wr => ∃ i : Nat, i ≤ l.length ∧ g = l.length - i ∧ v = .int .i64 i ∧ (l.drop i).any (lastB fs) = l.any (lastB fs) ∧ wr = w)
  case atStart => exact ⟨0, Nat.zero_le _, by omega, rfl, by rw [List.drop_zero], rfl⟩
  case round =>
    obtain ⟨i, hi, hgk, rfl, hd, rfl⟩ := hrel
    have HD := Lib.hid hd
    clear hd
    by_cases hlt : i < l.length
    · obtain ⟨y, hy⟩ : ∃ y, l[i]? = some y := ⟨_, List.getElem?_eq_getElem hlt⟩
      obtain ⟨yk, rfl, hyk⟩ := lt_of_in (HI.out y (List.mem_of_getElem? hy))
      obtain ⟨q, hq⟩ : ∃ q, fs[yk]? = some q := ⟨_, List.getElem?_eq_getElem hyk⟩
      obtain ⟨b, off, rfl, hcell⟩ := HP.out.at hy (Below.refl _ _)
      have HUP : Hid ((q || (l.drop (i + 1)).any (lastB fs)) = l.any (lastB fs)) := Lib.hid (by
        rw [← HD.out, any_drop hy]
        have : lastB fs (yk : Int) = q := by unfold lastB; rw [Int.toNat_natCast, hq]; rfl
        rw [this])
      have HCy := Lib.hid (HC.out yk q hq)
      clear hy HD hq
      go_wp2_with fail
      refine HCy.out.mono ?_
      rintro e w1 ⟨rfl, rfl⟩
      clear HCy
      cases q with
      | true =>
        go_wp2_with fail
        go_ret
        exact ⟨i, rfl, by rw [← HUP.out]; exact decide_eq_true (Int.natCast_nonneg i), rfl⟩
      | false =>
        go_wp2_with fail
        go_roundg (l.length - (i + 1))
        case measure => omega
        case rel => exact ⟨i + 1, by omega, rfl, by go_num, HUP.out, rfl⟩
    · obtain rfl : i = l.length := by omega
      go_wp2_with fail
      go_ret
      have hu := HD.out
      rw [List.drop_length] at hu
      exact ⟨-1, rfl, by rw [← hu]; rfl, rfl⟩
set_option maxHeartbeats 1000000 in
theorem containsLast_any (vo vn : Value) (fa : Option Addr) (fc : Nat) (fs : List Bool) (B : Nat) (l : List Int) (a : Option Addr) (c : Nat) (w : World) (hl : l.length ≤ 1000) (hp : IntsAt w (.slice a l.length c) l) (hin : ∀ x ∈ l, InN fs.length x) (hf : BoolsAt w (.slice fa fs.length fc) fs)
    (hB : w.heap[B]? = some (.cells #[vo, vn, .slice fa fs.length fc] 26 (0, 0))) :
    Calls Tryz.prog 27 #[.slice a l.length c, .func (.func 28) #[] #[.pointer (some ⟨B, 0, none⟩)]] w fun e w' => e = .returned (.bool (l.any (lastB fs))) ∧ w' = w := by
  have H := Lib.hid (indexLast_any vo vn fa fc fs B l a c w hl hp hin hf hB)
  clear hp hB hl hin hf
  go_enter Tryz.func27, Tryz.ntmps27
  go_wp2_with fail
  refine H.out.mono ?_
  rintro e w1 ⟨i, rfl, hi, rfl⟩
  have HI := Lib.hid hi
  clear hi
  go_wp2_with fail
  go_ret
  exact ⟨ret_bb' HI.out, rfl⟩
end Go.Proofs.YtbhkfifmgbcknaaGreatDoor
namespace Go.Proofs.YtbhkfifmgbcknaaGreatDoor.Ex
open Go Go.RowKit
noncomputable def isTrue (r : Option (Value × H)) : Bool := match r with
  | some (.bool b, _) => b
  | _ => false
theorem isTrue_ok {r : Option (Value × H)} (h : isTrue r = true) : ∃ h', r = some (.bool true, h') := by
  unfold isTrue at h
  split at h
  · subst h; exact ⟨_, rfl⟩
  · cases h
theorem yes_any {l : List (FuncId × Caller)} (hl : HsOk Tryz.prog NG l) {f : FuncId} (hf : isTrue (runs (hkOf l) f [] [] NG) = true) (w : World) (hw : kFact w) :
    Calls Tryz.prog f #[] w fun e w' => e = .returned (.bool true) ∧ Below w.heap.size w w' := by
  obtain ⟨h', hr⟩ := isTrue_ok hf
  exact closed2 noNum_prog mixed_prog (hkOf_ok hl) (hkOf_mn hl) (l := []) rfl rfl rfl hr rfl w (fun i e hi => by cases hi) hw fun b hb => ⟨kLt hw b hb, fun i e hi => by cases hi⟩
set_option maxRecDepth 1000000 in
theorem awake13_run : isTrue (runs (hkOf hooks2) 94 [] [] NG) = true := by kernel_rfl
theorem awake13_any (w : World) (hw : kFact w) : Calls Tryz.prog 94 #[] w fun e w' => e = .returned (.bool true) ∧ Below w.heap.size w w' := yes_any hooks2_ok awake13_run w hw
noncomputable def hooks3 : List (FuncId × Caller) := (94, hYes) :: hooks2
theorem hooks3_ok : HsOk Tryz.prog NG hooks3 := ⟨hYes_ok awake13_any, hooks2_ok⟩
end Go.Proofs.YtbhkfifmgbcknaaGreatDoor.Ex
namespace Go.Proofs.YtbhkfifmgbcknaaGreatDoor.Ex
open Go Go.RowKit
set_option maxRecDepth 1000000 in
theorem awake15_run : isTrue (runs (hkOf hooks3) 43 [] [] NG) = true := by kernel_rfl
theorem awake15_any (w : World) (hw : kFact w) : Calls Tryz.prog 43 #[] w fun e w' => e = .returned (.bool true) ∧ Below w.heap.size w w' := yes_any hooks3_ok awake15_run w hw
noncomputable def hooks4 : List (FuncId × Caller) := (43, hYes) :: hooks3
theorem hooks4_ok : HsOk Tryz.prog NG hooks4 := ⟨hYes_ok awake15_any, hooks3_ok⟩
set_option maxRecDepth 1000000 in
theorem awake16_run : isTrue (runs (hkOf hooks4) 44 [] [] NG) = true := by kernel_rfl
theorem awake16_any (w : World) (hw : kFact w) : Calls Tryz.prog 44 #[] w fun e w' => e = .returned (.bool true) ∧ Below w.heap.size w w' := yes_any hooks4_ok awake16_run w hw
noncomputable def hooks5 : List (FuncId × Caller) := (44, hYes) :: hooks4
theorem hooks5_ok : HsOk Tryz.prog NG hooks5 := ⟨hYes_ok awake16_any, hooks4_ok⟩
set_option maxRecDepth 1000000 in
theorem awake17_run : isTrue (runs (hkOf hooks5) 5 [] [] NG) = true := by kernel_rfl
theorem awake17_any (w : World) (hw : kFact w) : Calls Tryz.prog 5 #[] w fun e w' => e = .returned (.bool true) ∧ Below w.heap.size w w' := yes_any hooks5_ok awake17_run w hw
end Go.Proofs.YtbhkfifmgbcknaaGreatDoor.Ex
namespace Go.Proofs.YtbhkfifmgbcknaaGreatDoor
open Go.RowKit Go.Extern.Stop Go.Stop Go.Extern
theorem cells17 {W : World} {b : Nat} {v0 v1 v2 : Value} {T : TypeId} (h : W.heap[b]? = some (.cells #[v0, v1, v2] T (0, 0))) : W.cell? ⟨b, 0, none⟩ = some v0 ∧ W.cell? ⟨b, 1, none⟩ = some v1 ∧ W.cell? ⟨b, 2, none⟩ = some v2 ∧ ∀ i, W.frozen? ⟨b, i, none⟩ = false :=
  ⟨by rw [Lib.cell_of_heap h]; rfl, by rw [Lib.cell_of_heap h]; rfl, by rw [Lib.cell_of_heap h]; rfl, fun i => by unfold World.frozen?; rw [h]; simp⟩
theorem form17 {W : World} {B n : Nat} {T : TypeId} {s : Nat} {v : Value} {xs : List Value} (h : W.ownsRow B T s v n xs) : ∃ a c, v = .slice a n c := by
  rcases h.2 with ⟨rfl, rfl⟩ | ⟨g, cap, _, rfl, _⟩
  · exact ⟨none, 0, rfl⟩
  · exact ⟨_, cap, rfl⟩
structure ToS17 (w : World) (sv nv fv v0 v1 : Value) (ons nxs : List (List Int)) (vs us : List Value) (W : World) : Prop where
  src : W.heap[w.heap.size]? = some (.cells #[sv, nv, fv] 26 (0, 0))
  res : W.heap[w.heap.size + 1]? = some (.cells #[.slice none 0 0, .slice none 0 0, .slice none 0 0] 31 (0, 0))
  out : W.heap[w.heap.size + 1 + 1]? = some (.cells #[v0, v1, .slice none 0 0] 31 (0, 0))
  ons : LlO (w.heap.size + 1 + 1 + 1) v0 ons vs W
  nxs : LlO (w.heap.size + 1 + 1 + 1) v1 nxs us W
  dj : ∀ k, v0.ownBlock = some k → some k ≠ v1.ownBlock
  below : Below w.heap.size w W
section
variable {w : World} {sv nv fv v0 v1 : Value} {ons nxs : List (List Int)} {vs us : List Value} {W W' : World}
theorem ToS17.step (h : ToS17 w sv nv fv v0 v1 ons nxs vs us W) (hb : Below W.heap.size W W') : ToS17 w sv nv fv v0 v1 ons nxs vs us W' :=
  ⟨(hb.block _ (hlt17 h.src)).trans h.src, (hb.block _ (hlt17 h.res)).trans h.res, (hb.block _ (hlt17 h.out)).trans h.out, h.ons.surv (T := 26) (Surv.below hb) (by decide) (by decide), h.nxs.surv (T := 26) (Surv.below hb) (by decide) (by decide), h.dj, h.below.trans (hb.mono h.below.size)⟩
theorem ToS17.lt (h : ToS17 w sv nv fv v0 v1 ons nxs vs us W) : w.heap.size + 1 + 1 + 1 ≤ W.heap.size := hlt17 h.out
theorem ToS17.more0 {l : List Int} {a : Option Addr} {c : Nat} {v' : Value} (h : ToS17 w sv nv fv v0 (.slice none 0 0) ons [] vs [] W) (he : W.ownsRow (w.heap.size + 1 + 1 + 1) 3 1 (.slice a l.length c) l.length (encI l)) (hg : W.grownBy W' v0.ownBlock)
    (hown : W'.ownsRow (w.heap.size + 1 + 1 + 1) 27 1 v' (ons.length + 1) (vs ++ [.slice a l.length c])) :
    ToS17 w sv nv fv v' (.slice none 0 0) (ons ++ [l]) [] (vs ++ [.slice a l.length c]) [] (W'.setCell ⟨w.heap.size + 1 + 1, 0, none⟩ v') ∧ W'.heap[w.heap.size + 1 + 1]? = some (.cells #[v0, .slice none 0 0, .slice none 0 0] 31 (0, 0)) := by
  have hge : ∀ k, v0.ownBlock = some k → w.heap.size + 1 + 1 + 1 ≤ k := fun k e => (h.ons.own.lt k e).1
  have hne : ∀ b, b ≤ w.heap.size + 1 + 1 → some b ≠ v0.ownBlock := fun b hb e => by have := hge b e.symm; omega
  have h0 := (hg.block _ (hlt17 h.src) (hne _ (by omega))).trans h.src
  have h1 := (hg.block _ (hlt17 h.res) (hne _ (by omega))).trans h.res
  have h2 := (hg.block _ (hlt17 h.out) (hne _ (by omega))).trans h.out
  refine ⟨⟨(heap_setCell_other _ _ _ _ (by show w.heap.size ≠ w.heap.size + 1 + 1; omega)).trans h0, (heap_setCell_other _ _ _ _ (by show w.heap.size + 1 ≠ w.heap.size + 1 + 1; omega)).trans h1, heap_setCell_same _ _ 0 _ _ v' h2,
    (h.ons.more he hg hown).surv (T := 26) (Surv.setCell (by show w.heap.size + 1 + 1 < _; omega) v') (by decide) (by decide), LlO.nil _ _, fun k _ e => (by cases e), ?_⟩, h2⟩
  exact (h.below.grown hg h.below.size (fun k e => by have := hge k e; omega)).setCell (p := ⟨w.heap.size + 1 + 1, 0, none⟩) (by show _ ≤ w.heap.size + 1 + 1; omega) _
theorem ToS17.more1 {l : List Int} {a : Option Addr} {c g n cap : Nat} (h : ToS17 w sv nv fv v0 v1 ons nxs vs us W) (he : W.ownsRow (w.heap.size + 1 + 1 + 1) 3 1 (.slice a l.length c) l.length (encI l)) (hg : W.grownBy W' v1.ownBlock) (hat : v1.ownBlock = some g ∨ g = W.heap.size)
    (hown : W'.ownsRow (w.heap.size + 1 + 1 + 1) 27 1 (.slice (some ⟨g, 0, none⟩) n cap) (nxs.length + 1) (us ++ [.slice a l.length c])) :
    ToS17 w sv nv fv v0 (.slice (some ⟨g, 0, none⟩) n cap) ons (nxs ++ [l]) vs (us ++ [.slice a l.length c]) (W'.setCell ⟨w.heap.size + 1 + 1, 1, none⟩ (.slice (some ⟨g, 0, none⟩) n cap)) ∧ W'.heap[w.heap.size + 1 + 1]? = some (.cells #[v0, v1, .slice none 0 0] 31 (0, 0)) := by
  have hge : ∀ k, v1.ownBlock = some k → w.heap.size + 1 + 1 + 1 ≤ k := fun k e => (h.nxs.own.lt k e).1
  have hne : ∀ b, b ≤ w.heap.size + 1 + 1 → some b ≠ v1.ownBlock := fun b hb e => by have := hge b e.symm; omega
  have h0 := (hg.block _ (hlt17 h.src) (hne _ (by omega))).trans h.src
  have h1 := (hg.block _ (hlt17 h.res) (hne _ (by omega))).trans h.res
  have h2 := (hg.block _ (hlt17 h.out) (hne _ (by omega))).trans h.out
  refine ⟨⟨(heap_setCell_other _ _ _ _ (by show w.heap.size ≠ w.heap.size + 1 + 1; omega)).trans h0, (heap_setCell_other _ _ _ _ (by show w.heap.size + 1 ≠ w.heap.size + 1 + 1; omega)).trans h1, heap_setCell_same _ _ 1 _ _ _ h2,
    (h.ons.far h.nxs.own hg h.dj).surv (T := 26) (Surv.setCell (by show w.heap.size + 1 + 1 < _; omega) _) (by decide) (by decide), (h.nxs.more he hg hown).surv (T := 26) (Surv.setCell (by show w.heap.size + 1 + 1 < _; omega) _) (by decide) (by decide), ?_, ?_⟩, h2⟩
  · intro k hk e
    have e' : k = g := by injection e
    subst e'
    rcases hat with e | e
    · exact h.dj k hk e.symm
    · have := (h.ons.own.lt k hk).2
      omega
  · exact (h.below.grown hg h.below.size (fun k e => by have := hge k e; omega)).setCell (p := ⟨w.heap.size + 1 + 1, 1, none⟩) (by show _ ≤ w.heap.size + 1 + 1; omega) _
end
theorem ToS17.start (w : World) (sv nv fv : Value) :
    ToS17 w sv nv fv (.slice none 0 0) (.slice none 0 0) [] [] [] [] (((w.alloc (.cells #[sv, nv, fv] 26)).alloc (.cells #[.slice none 0 0, .slice none 0 0, .slice none 0 0] 31)).alloc (.cells #[.slice none 0 0, .slice none 0 0, .slice none 0 0] 31)) := by
  have b1 := below_new w (.cells #[sv, nv, fv] 26)
  have b2 := below_new (w.alloc (.cells #[sv, nv, fv] 26)) (.cells #[.slice none 0 0, .slice none 0 0, .slice none 0 0] 31)
  have b3 := below_new ((w.alloc (.cells #[sv, nv, fv] 26)).alloc (.cells #[.slice none 0 0, .slice none 0 0, .slice none 0 0] 31)) (.cells #[.slice none 0 0, .slice none 0 0, .slice none 0 0] 31)
  have n1 := heap_alloc_new w (.cells #[sv, nv, fv] 26)
  have n2 := heap_alloc_new (w.alloc (.cells #[sv, nv, fv] 26)) (.cells #[.slice none 0 0, .slice none 0 0, .slice none 0 0] 31)
  have n3 := heap_alloc_new ((w.alloc (.cells #[sv, nv, fv] 26)).alloc (.cells #[.slice none 0 0, .slice none 0 0, .slice none 0 0] 31)) (.cells #[.slice none 0 0, .slice none 0 0, .slice none 0 0] 31)
  rw [World.size_alloc] at n2
  rw [World.size_alloc, World.size_alloc] at n3
  exact ⟨(b3.block _ (by simp; omega)).trans ((b2.block _ (by simp)).trans n1), (b3.block _ (by simp)).trans n2, n3, LlO.nil _ _, LlO.nil _ _, fun k e => (by cases e), (b1.trans (b2.mono b1.size)).trans (b3.mono (Nat.le_trans b1.size b2.size))⟩
theorem onsL_take {ss : List (Nat × Nat)} {i : Nat} {c : Nat × Nat} (h : ss[i]? = some c) : onsL (ss.take (i + 1)) = onsL (ss.take i) ++ [intsL c.1 c.2] := by
  unfold onsL
  rw [List.take_add_one, h, List.map_append]
  rfl
def ToR17 (w : World) (sv nv fv : Value) (ss : List (Nat × Nat)) (g : Nat) (u : Value) (wr : World) : Prop :=
  ∃ (i : Nat) (vs : List Value) (v : Value), i ≤ ss.length ∧ g = ss.length - i ∧ u = .int .i64 i ∧ ToS17 w sv nv fv v (.slice none 0 0) (onsL (ss.take i)) [] vs [] wr
def ToQ17 (w : World) (sv nv fv v0 : Value) (ons nxs : List (List Int)) (vs : List Value) (g : Nat) (u : Value) (wr : World) : Prop :=
  ∃ (i : Nat) (us : List Value) (v : Value), i ≤ nxs.length ∧ g = nxs.length - i ∧ u = .int .i64 i ∧ ToS17 w sv nv fv v0 v ons (nxs.take i) vs us wr
set_option maxRecDepth 100000 in
set_option maxHeartbeats 8000000 in
theorem to17_any (oa fa na : Option Addr) (oc fc nc : Nat) (ss : List (Nat × Nat)) (nxs : List (List Int)) (fs : List Bool) (w : World) (ho : SsAt w (.slice oa ss.length oc) ss) (hn : LlAt w (.slice na nxs.length nc) nxs) (hf : BoolsAt w (.slice fa fs.length fc) fs)
    (h64 : ∀ c ∈ ss, U64 c.1 ∧ U64 c.2) (hsl : ss.length ≤ 1000) (hnl : nxs.length ≤ 1000) (hll : ∀ l ∈ nxs, l.length ≤ 1000) (hfl : fs.length ≤ 1000) (ht : TabB w) :
    Calls Tryz.prog 7 #[.agg #[.slice oa ss.length oc, .slice na nxs.length nc, .slice fa fs.length fc]] w fun e w' => ∃ a0 c0 a1 c1 a2 c2, e = .returned (.agg #[.slice a0 ss.length c0, .slice a1 nxs.length c1, .slice a2 fs.length c2]) ∧
      LlAt w' (.slice a0 ss.length c0) (onsL ss) ∧ LlAt w' (.slice a1 nxs.length c1) nxs ∧ BoolsAt w' (.slice a2 fs.length c2) fs ∧ Below w.heap.size w w' := by
  obtain ⟨i0, hi0, hz0, hz1, hz2⟩ := info_parts infoInts17
  have H0 := Lib.hid (ToS17.start w (.slice oa ss.length oc) (.slice na nxs.length nc) (.slice fa fs.length fc))
  have HO := Lib.hid ho
  have HN := Lib.hid hn
  have HF := Lib.hid hf
  have H64 := Lib.hid h64
  have HLL := Lib.hid hll
  have HT := Lib.hid ht
  obtain ⟨k0, -, -, -⟩ := cells17 H0.out.src
  clear ho hn hf h64 hll ht
  go_enter Tryz.func7, Tryz.ntmps7
  go_wp2_with fail
  clear k0
  go_loopg [11] ss.length (fun g u wr => ToR17 w (.slice oa ss.length oc) (.slice na nxs.length nc) (.slice fa fs.length fc) ss g u wr)
  case atStart => exact ⟨0, [], _, Nat.zero_le _, by omega, rfl, H0.out⟩
  case round =>
    clear H0
    obtain ⟨i, vs, v, hil, hgi, rfl, hst⟩ := hrel
    have HTk : Hid ((onsL (ss.take i)).length = i) := Lib.hid (by unfold onsL; rw [List.length_map, List.length_take]; omega)
    obtain ⟨va, vc, hv⟩ := form17 hst.ons.own
    rw [HTk.out] at hv
    subst hv
    by_cases hlt' : i < ss.length
    · obtain ⟨c, hx⟩ : ∃ c, ss[i]? = some c := ⟨_, List.getElem?_eq_getElem hlt'⟩
      obtain ⟨b2, off2, rfl, c0, c1⟩ := HO.out.at hx hst.below
      have HTk2 : Hid (onsL (ss.take (i + 1)) = onsL (ss.take i) ++ [intsL c.1 c.2]) := Lib.hid (onsL_take hx)
      have h6 := H64.out c (List.mem_of_getElem? hx)
      obtain ⟨p, q⟩ := c
      have HEn : Hid (∀ W, Below wr.heap.size wr W → Calls Tryz.prog 25 #[.agg #[.int .u64 (p : Int), .int .u64 (q : Int)]] W fun e w' => ∃ la lc, e = .returned (.slice la (intsL p q).length lc) ∧ w'.ownsRow W.heap.size 3 1 (.slice la (intsL p q).length lc) (intsL p q).length (encI (intsL p q)) ∧ Below W.heap.size W w') := Lib.hid (fun W h => by
        have hB := hst.below.trans (h.mono hst.below.size)
        refine (list_own p q h6.1 h6.2 W (HT.out.below HT.out.lt hB)).mono ?_
        rintro e w' ⟨v, rfl, hown, hb⟩
        rw [intsL_len, intsL_enc] at hown
        obtain ⟨la, lc, rfl⟩ := form17 hown
        exact ⟨la, lc, rfl, hown, hb⟩)
      have HST := Lib.hid hst
      have hIl : (intsL p q).length ≤ 128 := intsL_le p q
      clear hst hx h6
      go_wp2_with fail
      have hI := (HST.out.step (below_new wr (.cells #[.int .u64 (p : Int), .int .u64 (q : Int)] 43))).step (Below.refl _ _).drew
      have hBI : Below wr.heap.size wr (wr.alloc (.cells #[.int .u64 (p : Int), .int .u64 (q : Int)] 43)).drew := (below_new wr _).drew
      have hX := heap_alloc_new wr (.cells #[.int .u64 (p : Int), .int .u64 (q : Int)] 43)
      clear c0 c1 HST
      refine region_T (fun W' : World => W'.cell? ⟨w.heap.size + 1 + 1, 0, none⟩ = some (.slice va i vc) ∧ W'.cell? ⟨wr.heap.size, 0, none⟩ = some (.int .u64 (p : Int)) ∧ W'.cell? ⟨wr.heap.size, 1, none⟩ = some (.int .u64 (q : Int))) 5 (by kernel_rfl) ?_
      have hS0 : (fun W' : World => W'.cell? ⟨w.heap.size + 1 + 1, 0, none⟩ = some (.slice va i vc) ∧ W'.cell? ⟨wr.heap.size, 0, none⟩ = some (.int .u64 (p : Int)) ∧ W'.cell? ⟨wr.heap.size, 1, none⟩ = some (.int .u64 (q : Int))) (wr.alloc (.cells #[.int .u64 (p : Int), .int .u64 (q : Int)] 43)).drew :=
        ⟨(cells17 hI.out).1, by rw [World.cell?_drew, Lib.cell_of_heap hX]; rfl, by rw [World.cell?_drew, Lib.cell_of_heap hX]; rfl⟩
      refine wpT_take (i := 0) (v := .pointer (some ⟨w.heap.size + 1 + 1, 0, none⟩)) rfl (by kernel_rfl) (by kernel_rfl) (by kernel_rfl) (by kernel_rfl) (by kernel_rfl) (by kernel_rfl) (by kernel_rfl) (by kernel_rfl) (fun _ _ _ h => h) (Or.inl ⟨by rfl, ?_⟩) hS0 ?_
      · rintro w' -
        go_simp
      try simp only [Act.put]
      refine wpT_take (i := 1) (v := .slice va i vc) rfl (by kernel_rfl) (by kernel_rfl) (by kernel_rfl) (by kernel_rfl) (by kernel_rfl) (by kernel_rfl) (by kernel_rfl) (by kernel_rfl) (fun _ _ _ h => h) (Or.inl ⟨by rfl, ?_⟩) hS0 ?_
      · rintro w' ⟨s0, -, -⟩
        go_simp
      try simp only [Act.put]
      refine wpT_take (i := 2) (v := .agg #[.int .u64 (p : Int), .int .u64 (q : Int)]) rfl (by kernel_rfl) (by kernel_rfl) (by kernel_rfl) (by kernel_rfl) (by kernel_rfl) (by kernel_rfl) (by kernel_rfl) (by kernel_rfl) (fun _ _ _ h => h) (Or.inl ⟨by rfl, ?_⟩) hS0 ?_
      · rintro w' ⟨-, s1, s2⟩
        go_simp
      try simp only [Act.put]
      refine wpT_one (i := 3) (by kernel_rfl) rfl ?_
      intro KK hKK
      go_simp
      refine (HEn.out _ hBI).mono ?_
      rintro e w6 ⟨ea, ec, rfl, heo, b6⟩
      have hst6 := hI.step b6
      have hS6 : (fun W' : World => W'.cell? ⟨w.heap.size + 1 + 1, 0, none⟩ = some (.slice va i vc) ∧ W'.cell? ⟨wr.heap.size, 0, none⟩ = some (.int .u64 (p : Int)) ∧ W'.cell? ⟨wr.heap.size, 1, none⟩ = some (.int .u64 (q : Int))) w6 :=
        ⟨(cells17 hst6.out).1, (b6.cell (p := ⟨wr.heap.size, 0, none⟩) (by show wr.heap.size < _; simp)).trans hS0.2.1, (b6.cell (p := ⟨wr.heap.size, 1, none⟩) (by show wr.heap.size < _; simp)).trans hS0.2.2⟩
      refine hKK _ _ ⟨fun _ => hS6, ?_⟩
      clear hKK
      try simp only [Act.put]
      have hb7 := below_new w6 (.cells #[.slice ea (intsL p q).length ec] 27)
      have hst7 := hst6.step hb7
      have he7 := ownsRow_surv (T := 26) (ownsRow_lower (B' := w.heap.size + 1 + 1 + 1) heo (by have := hI.lt; exact this)) (Surv.below hb7) (by decide)
      have hN7 := heap_alloc_new w6 (.cells #[.slice ea (intsL p q).length ec] 27)
      have hS7 : (fun W' : World => W'.cell? ⟨w.heap.size + 1 + 1, 0, none⟩ = some (.slice va i vc) ∧ W'.cell? ⟨wr.heap.size, 0, none⟩ = some (.int .u64 (p : Int)) ∧ W'.cell? ⟨wr.heap.size, 1, none⟩ = some (.int .u64 (q : Int))) (w6.alloc (.cells #[.slice ea (intsL p q).length ec] 27)) :=
        ⟨(cells17 hst7.out).1, (hb7.cell (p := ⟨wr.heap.size, 0, none⟩) (by show wr.heap.size < _; have := b6.size; simp at this; omega)).trans hS6.2.1, (hb7.cell (p := ⟨wr.heap.size, 1, none⟩) (by show wr.heap.size < _; have := b6.size; simp at this; omega)).trans hS6.2.2⟩
      refine wpT_one (i := 4) (by kernel_rfl) rfl ?_
      intro KK hKK
      go_simp
      refine hKK _ _ ⟨fun _ => hS7, ?_⟩
      clear hKK hS0
      try simp only [Act.put]
      refine wpT_tail 5 3 rfl rfl (by kernel_rfl) (by kernel_rfl) ?_
      have hown7 := hst7.ons.own
      rw [HTk.out] at hown7
      simp only [List.drop_succ_cons, List.drop_zero]
      refine wpList_append_lies _ rfl _ _ 23 rfl (w.heap.size + 1 + 1 + 1) 27 i0 (.slice none 0 0) 1 24 Tryz.underlying23 hi0 hz0 hz1 hz2 rfl (by decide) _ _ _ rfl hown7 ⟨w6.heap.size, 0, none⟩ 1 1 [.slice ea (intsL p q).length ec] rfl rfl (World.news_of_block hN7) ?ones (by decide) ?len ?bytes hst7.lt _ rfl ?main6
      case ones => intro y hy; simp only [List.mem_cons, List.not_mem_nil, or_false] at hy; rcases hy with rfl; rfl
      case len => unfold maxLen; omega
      case bytes => omega
      intro g cap w8 hown8 hgrow8 hat8 hlt8
      have hm := hst7.more0 he7 hgrow8 (by rw [HTk.out]; exact hown8)
      rw [← HTk2.out] at hm
      obtain ⟨d0, d1, d2, df⟩ := cells17 hm.2
      have df0 := df 0
      have HM := Lib.hid hm.1
      clear hown8 hgrow8 hat8 hlt8 hst7 hst6 hI he7 hS7 hS6 hN7 hown7 hb7 hm df heo b6 hBI hX
      go_wp2_with fail
      go_roundg (ss.length - (i + 1))
      case measure => omega
      case rel => exact ⟨i + 1, _, _, by omega, rfl, by go_num, HM.out⟩
    · obtain rfl : i = ss.length := by omega
      rw [List.take_length] at hst HTk
      obtain ⟨-, k1, -, -⟩ := cells17 hst.src
      have HST := Lib.hid hst
      clear hst
      go_wp2_with fail
      clear k1
      obtain ⟨wE, hwE⟩ : ∃ wE, wE = wr := ⟨_, rfl⟩
      subst hwE
      go_loopg [26] nxs.length (fun g u W => ToQ17 w (.slice oa ss.length oc) (.slice na nxs.length nc) (.slice fa fs.length fc) (.slice va ss.length vc) (onsL ss) nxs vs g u W)
      case atStart => exact ⟨0, [], _, Nat.zero_le _, by omega, rfl, HST.out⟩
      case round =>
        clear HST
        obtain ⟨j, us, v1, hjl, hgj, rfl, hst⟩ := hrel
        have HTj : Hid ((nxs.take j).length = j) := Lib.hid (by rw [List.length_take]; omega)
        obtain ⟨ua, uc, hv⟩ := form17 hst.nxs.own
        rw [HTj.out] at hv
        subst hv
        by_cases hlt2 : j < nxs.length
        · obtain ⟨l, hx⟩ : ∃ l, nxs[j]? = some l := ⟨_, List.getElem?_eq_getElem hlt2⟩
          obtain ⟨b2, off2, xa, xc, rfl, c0, hil2⟩ := HN.out.at hx hst.below
          have HTj2 : Hid (nxs.take (j + 1) = nxs.take j ++ [l]) := Lib.hid (by rw [List.take_add_one, hx]; rfl)
          have hl1 := HLL.out l (List.mem_of_getElem? hx)
          have HL := Lib.hid hil2
          have HST := Lib.hid hst
          clear hst hx hil2
          go_wp2_with fail
          have hI := HST.out.step (Below.refl _ _).drew
          have hLI : IntsAt wr.drew (.slice xa l.length xc) l := HL.out.step (Below.refl _ _).drew
          clear c0 HST HL
          refine region_T (fun W' : World => W'.cell? ⟨w.heap.size + 1 + 1, 1, none⟩ = some (.slice ua j uc)) 6 (by kernel_rfl) ?_
          have hS0 : (fun W' : World => W'.cell? ⟨w.heap.size + 1 + 1, 1, none⟩ = some (.slice ua j uc)) wr.drew := (cells17 hI.out).2.1
          refine wpT_take (i := 0) (v := .pointer (some ⟨w.heap.size + 1 + 1, 1, none⟩)) rfl (by kernel_rfl) (by kernel_rfl) (by kernel_rfl) (by kernel_rfl) (by kernel_rfl) (by kernel_rfl) (by kernel_rfl) (by kernel_rfl) (fun _ _ _ h => h) (Or.inl ⟨by rfl, ?_⟩) hS0 ?_
          · rintro w' -
            go_simp
          try simp only [Act.put]
          refine wpT_take (i := 1) (v := .slice ua j uc) rfl (by kernel_rfl) (by kernel_rfl) (by kernel_rfl) (by kernel_rfl) (by kernel_rfl) (by kernel_rfl) (by kernel_rfl) (by kernel_rfl) (fun _ _ _ h => h) (Or.inl ⟨by rfl, ?_⟩) hS0 ?_
          · rintro w' s0
            go_simp
          try simp only [Act.put]
          refine wpT_take (i := 3) (v := .slice xa l.length xc) rfl (by kernel_rfl) (by kernel_rfl) (by kernel_rfl) (by kernel_rfl) (by kernel_rfl) (by kernel_rfl) (by kernel_rfl) (by kernel_rfl) (fun _ _ _ h => h) (Or.inl ⟨by rfl, ?_⟩) hS0 ?_
          · rintro w' -
            go_simp
          try simp only [Act.put]
          have hb5 := below_new wr.drew (.cells #[] 3)
          have hst5 := hI.step hb5
          have hL5 := hLI.step hb5
          have hS5 : (fun W' : World => W'.cell? ⟨w.heap.size + 1 + 1, 1, none⟩ = some (.slice ua j uc)) (wr.drew.alloc (.cells #[] 3)) := (cells17 hst5.out).2.1
          refine wpT_one (i := 2) (by kernel_rfl) rfl ?_
          intro KK hKK
          go_simp
          refine hKK _ _ ⟨fun _ => hS5, ?_⟩
          clear hKK hS0
          try simp only [Act.put]
          refine wpT_one (i := 4) (by kernel_rfl) rfl ?_
          intro KK hKK
          have hlit : (wr.drew.alloc (.cells #[] 3)).ownsRow (w.heap.size + 1 + 1 + 1) 3 1 (.slice (some ⟨wr.drew.heap.size, 0, none⟩) 0 0) 0 [] := World.ownsRow_lit wr.drew #[] 0 hI.lt (by unfold maxLen; omega) rfl
          refine step_append_ints _ rfl _ _ rfl (w.heap.size + 1 + 1 + 1) _ 0 [] rfl hlit _ l rfl hL5 (by omega) hst5.lt ?_
          intro v6 w6 hown6 hgrow6
          have hb6 : Below wr.drew.heap.size wr.drew w6 := hb5.grown hgrow6 hb5.size (fun k e => by
            have e' : wr.drew.heap.size = k := by injection e
            omega)
          have hst6 := hI.step hb6
          rw [Nat.zero_add, List.nil_append] at hown6
          obtain ⟨ea, ec, rfl⟩ := form17 hown6
          have hS6 : (fun W' : World => W'.cell? ⟨w.heap.size + 1 + 1, 1, none⟩ = some (.slice ua j uc)) w6 := (cells17 hst6.out).2.1
          refine hKK _ _ ⟨fun _ => hS6, ?_⟩
          clear hKK
          try simp only [Act.put]
          have hb7 := below_new w6 (.cells #[.slice ea l.length ec] 27)
          have hst7 := hst6.step hb7
          have he7 := ownsRow_surv (T := 26) hown6 (Surv.below hb7) (by decide)
          have hN7 := heap_alloc_new w6 (.cells #[.slice ea l.length ec] 27)
          have hS7 : (fun W' : World => W'.cell? ⟨w.heap.size + 1 + 1, 1, none⟩ = some (.slice ua j uc)) (w6.alloc (.cells #[.slice ea l.length ec] 27)) := (cells17 hst7.out).2.1
          refine wpT_one (i := 5) (by kernel_rfl) rfl ?_
          intro KK hKK
          go_simp
          refine hKK _ _ ⟨fun _ => hS7, ?_⟩
          clear hKK
          try simp only [Act.put]
          refine wpT_tail 6 3 rfl rfl (by kernel_rfl) (by kernel_rfl) ?_
          have hown7 := hst7.nxs.own
          rw [HTj.out] at hown7
          simp only [List.drop_succ_cons, List.drop_zero]
          refine wpList_append_lies _ rfl _ _ 23 rfl (w.heap.size + 1 + 1 + 1) 27 i0 (.slice none 0 0) 1 24 Tryz.underlying23 hi0 hz0 hz1 hz2 rfl (by decide) _ _ _ rfl hown7 ⟨w6.heap.size, 0, none⟩ 1 1 [.slice ea l.length ec] rfl rfl (World.news_of_block hN7) ?onesB (by decide) ?lenB ?bytesB hst7.lt _ rfl ?mainB
          case onesB => intro y hy; simp only [List.mem_cons, List.not_mem_nil, or_false] at hy; rcases hy with rfl; rfl
          case lenB => unfold maxLen; omega
          case bytesB => omega
          intro g cap w8 hown8 hgrow8 hat8 hlt8
          have hm := hst7.more1 he7 hgrow8 hat8 (by rw [HTj.out]; exact hown8)
          rw [← HTj2.out] at hm
          obtain ⟨d0, d1, d2, df⟩ := cells17 hm.2
          have df1 := df 1
          have HM := Lib.hid hm.1
          clear hown8 hgrow8 hat8 hlt8 hst7 hst6 hst5 hI he7 hS7 hS6 hS5 hN7 hown7 hb7 hm df hown6 hgrow6 hb6 hb5 hL5 hLI hlit
          go_wp2_with fail
          go_roundg (nxs.length - (j + 1))
          case measure => omega
          case rel => exact ⟨j + 1, _, _, by omega, rfl, by go_num, HM.out⟩
        · obtain rfl : j = nxs.length := by omega
          rw [List.take_length] at hst
          obtain ⟨-, -, k2, -⟩ := cells17 hst.src
          obtain ⟨o0, o1, o2, of⟩ := cells17 hst.out
          have of2 := of 2
          have HST := Lib.hid hst
          have hnn : wr.ownsRow (w.heap.size + 1 + 1 + 1) 4 1 (.slice none 0 0) 0 [] := World.ownsRow_nil _ _ _ _
          have hfw := HF.out.step hst.below
          have hlt3 := hst.lt
          clear hst of
          go_wp2_with (at_builtin; refine wpList_append_bools _ rfl _ _ rfl (w.heap.size + 1 + 1 + 1) _ 0 [] rfl hnn _ fs rfl hfw (by omega) hlt3 ?_)
          intro v6 w6 hown6 hgrow6
          obtain ⟨ba, bc, rfl⟩ := form17 hown6
          have hst := HST.out
          have hne : ∀ b, some b ≠ (Value.slice none 0 0).ownBlock := fun b e => by cases e
          have s6 := (hgrow6.block _ (hlt17 hst.res) (hne _)).trans hst.res
          have o6 := (hgrow6.block _ (hlt17 hst.out) (hne _)).trans hst.out
          have o7 := heap_setCell_same _ _ 2 _ _ (.slice ba fs.length bc) o6
          have s7 : (w6.setCell ⟨w.heap.size + 1 + 1, 2, none⟩ (.slice ba fs.length bc)).heap[w.heap.size + 1]? = _ := (heap_setCell_other _ _ _ _ (by show w.heap.size + 1 ≠ w.heap.size + 1 + 1; omega)).trans s6
          have s8 := heap_setCell_same _ _ 0 _ _ (.slice va ss.length vc) s7
          have s9 := heap_setCell_same _ _ 1 _ _ (.slice ua nxs.length uc) s8
          have s10 := heap_setCell_same _ _ 2 _ _ (.slice ba fs.length bc) s9
          have hs6 : Surv (w.heap.size + 1 + 1 + 1) 26 wr w6 := fun k cur e _ hk _ => (hgrow6.block k (hlt17 hk) (hne _)).trans hk
          have hsF : Surv (w.heap.size + 1 + 1 + 1) 26 w6 ((((w6.setCell ⟨w.heap.size + 1 + 1, 2, none⟩ (.slice ba fs.length bc)).setCell ⟨w.heap.size + 1, 0, none⟩ (.slice va ss.length vc)).setCell ⟨w.heap.size + 1, 1, none⟩ (.slice ua nxs.length uc)).setCell ⟨w.heap.size + 1, 2, none⟩ (.slice ba fs.length bc)) :=
            (((Surv.setCell (by show w.heap.size + 1 + 1 < _; omega) _).trans (Surv.setCell (by show w.heap.size + 1 < _; omega) _)).trans (Surv.setCell (by show w.heap.size + 1 < _; omega) _)).trans (Surv.setCell (by show w.heap.size + 1 < _; omega) _)
          have HEND := Lib.hid (And.intro (hst.ons.surv (hs6.trans hsF) (by decide) (by decide)).ll (And.intro (hst.nxs.surv (hs6.trans hsF) (by decide) (by decide)).ll (And.intro (BoolsAt.own (ownsRow_surv hown6 hsF (by decide)) rfl)
            ((((((hst.below.grown hgrow6 hst.below.size (fun k e => by cases e)).setCell (p := ⟨w.heap.size + 1 + 1, 2, none⟩) (by show _ ≤ w.heap.size + 1 + 1; omega) (.slice ba fs.length bc)).setCell (p := ⟨w.heap.size + 1, 0, none⟩) (by show _ ≤ w.heap.size + 1; omega) (.slice va ss.length vc)).setCell (p := ⟨w.heap.size + 1, 1, none⟩) (by show _ ≤ w.heap.size + 1; omega) (.slice ua nxs.length uc)).setCell (p := ⟨w.heap.size + 1, 2, none⟩) (by show _ ≤ w.heap.size + 1; omega) (.slice ba fs.length bc))))))
          obtain ⟨y0, y1, y2, -⟩ := cells17 s10
          obtain ⟨p0, p1, p2, pf⟩ := cells17 o6
          obtain ⟨q0, q1, q2, -⟩ := cells17 o7
          obtain ⟨r0, r1, r2, rf⟩ := cells17 s6
          obtain ⟨t0, t1, t2, tf⟩ := cells17 s7
          have pf2 := pf 2
          have rf0 := rf 0
          have rf1 := rf 1
          have rf2 := rf 2
          have tf0 := tf 0
          have tf1 := tf 1
          have tf2 := tf 2
          clear hst hown6 hgrow6 s6 o6 s7 s8 s9 s10 o7 hs6 hsF pf rf tf hfw hnn o0 o1 o2 of2 k2
          go_wp2_with fail
          exact bodyPost_ret (v := .agg #[.slice va ss.length vc, .slice ua nxs.length uc, .slice ba fs.length bc]) (by simp [results, Tryz.f7, go_sem, y0, y1, y2]) rfl ⟨va, vc, ua, uc, ba, bc, rfl, HEND.out.1, HEND.out.2.1, HEND.out.2.2.1, HEND.out.2.2.2⟩
end Go.Proofs.YtbhkfifmgbcknaaGreatDoor
