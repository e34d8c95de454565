/-
  A part of the proof of the statement NfaAccepts.
-/
import Derived.Test.YtbhkfifmgbcknaaGreatDoorG25
import Derived.Maps.OwnOps
import Derived.Sort.KeysCollected
import Derived.Test.YtbhkfifmgbcknaaGreatDoorG24
import Derived.Test.YtbhkfifmgbcknaaGreatDoorProg
import Derived.Below
set_option linter.unusedSimpArgs false
set_option linter.unusedVariables false
namespace Go.Proofs.YtbhkfifmgbcknaaGreatDoor.Ex
open Go Go.RowKit Go.MapKept Go.Shelf Go.Maps Go.Sort
def putL : List (List UInt8) → List UInt8 → List (List UInt8)
  | [], w => [w]
  | x :: r, w => if w < x then w :: x :: r else x :: putL r w
def sortL (l : List (List UInt8)) : List (List UInt8) := l.foldl putL []
theorem putL_perm : ∀ (l : List (List UInt8)) (w : List UInt8), (putL l w).Perm (w :: l)
  | [], w => by rw [putL]
  | x :: r, w => by
    rw [putL]
    split
    · exact List.Perm.refl _
    · exact ((putL_perm r w).cons x).trans (List.Perm.swap w x r)
theorem putL_sorted : ∀ (l : List (List UInt8)) (w : List UInt8), l.Pairwise (fun a b => a ≤ b) → (putL l w).Pairwise (fun a b => a ≤ b)
  | [], w, _ => by rw [putL]; simp
  | x :: r, w, h => by
    rw [putL]
    obtain ⟨h1, h2⟩ := List.pairwise_cons.1 h
    split
    · rename_i hlt
      refine List.pairwise_cons.2 ⟨fun y hy => ?_, h⟩
      rcases List.mem_cons.1 hy with rfl | hy
      · exact List.le_of_lt hlt
      · exact List.le_trans (List.le_of_lt hlt) (h1 y hy)
    · rename_i hlt
      refine List.pairwise_cons.2 ⟨fun y hy => ?_, putL_sorted r w h2⟩
      rcases List.mem_cons.1 ((putL_perm r w).mem_iff.1 hy) with rfl | hy
      · exact List.not_lt.1 hlt
      · exact h1 y hy
theorem sortL_go : ∀ (l acc : List (List UInt8)), acc.Pairwise (fun a b => a ≤ b) → (l.foldl putL acc).Pairwise (fun a b => a ≤ b) ∧ (l.foldl putL acc).Perm (acc ++ l)
  | [], acc, h => ⟨h, by simp⟩
  | w :: l, acc, h => by
    have := sortL_go l (putL acc w) (putL_sorted acc w h)
    refine ⟨this.1, this.2.trans (((putL_perm acc w).append_right l).trans ?_)⟩
    exact (List.perm_middle (a := w) (l₁ := acc) (l₂ := l)).symm
theorem sortL_perm (l : List (List UInt8)) : (sortL l).Perm l := by simpa [sortL] using (sortL_go l [] List.Pairwise.nil).2
theorem mergeSort_sortL {ss l : List (List UInt8)} (h : ss.Perm l) : ss.mergeSort (fun x y => decide (x ≤ y)) = sortL l := by
  obtain ⟨h1, -⟩ := sortL_go l [] List.Pairwise.nil
  refine (mergeSort_of_perm (h.trans (sortL_perm l).symm)).trans (List.mergeSort_of_pairwise ?_)
  exact h1.imp fun hab => by simpa [leB] using hab
noncomputable def keysT (es : List (Value × Value)) : Option (List (List UInt8)) :=
  List.rec (motive := fun _ => Option (List (List UInt8))) (some []) (fun e _ ih => match e.1 with
    | .string s => match Nat.ble s.data.toList.length maxLen with
      | true => match ih with
        | some l => some (s.data.toList :: l)
        | none => none
      | false => none
    | _ => none) es
def RU (_ : Value) : Option (DataW Unit × List MemPlace) := some (.nil, [])
theorem keysT_ok {E : Env} : ∀ {es : List (Value × Value)} {es' : List MapEntry}, MsR E es es' → ∀ {ks : List (List UInt8)}, keysT es = some ks →
    (∀ x ∈ es', ∃ y, Go.WideElems.rd Tryz.prog 9 RU x = some y) ∧ es'.map (fun x => (Go.WideElems.rg Tryz.prog 9 RU x).1) = ks.map Lit.string
  | _, _, .nil, ks, h => by
    cases (show some [] = some ks from h)
    refine ⟨?_, rfl⟩
    intro x hx
    cases hx
  | _, _, .cons (k := k) (v := v) (k' := k') (v' := v') (b := b) (es := es) (es' := es') hk hv hm, ks, h => by
    cases k with
    | string s =>
      have h' : (match Nat.ble s.data.toList.length maxLen with
        | true => match keysT es with
          | some l => some (s.data.toList :: l)
          | none => none
        | false => none) = some ks := h
      cases hb : Nat.ble s.data.toList.length maxLen with
      | false => rw [hb] at h'; cases h'
      | true =>
        rw [hb] at h'
        dsimp only at h'
        cases hr : keysT es with
        | none => rw [hr] at h'; cases h'
        | some l =>
          rw [hr] at h'
          cases h'
          obtain ⟨h1, h2⟩ := keysT_ok hm hr
          have hlen : s.size ≤ maxLen := Nat.le_of_ble_eq_true hb
          have hrd : Go.WideElems.rd Tryz.prog 9 RU ⟨k', v', b⟩ = some (.string s.data.toList, .nil) :=
            Go.WideElems.rd_mk (born := b) (by rw [hk.string_inv]; exact Go.WideMaps.keyOf_string_mk Tryz.underlying9 hlen) (show RU v' = some (.nil, []) from rfl)
          refine ⟨fun x hx => ?_, ?_⟩
          · rcases List.mem_cons.1 hx with rfl | hx
            · exact ⟨_, hrd⟩
            · exact h1 x hx
          · have e1 : (Go.WideElems.rg Tryz.prog 9 RU ⟨k', v', b⟩) = (.string s.data.toList, .nil) := by
              unfold Go.WideElems.rg
              rw [hrd]
              exact Option.getD_some
            rw [List.map_cons, List.map_cons, h2, e1]
    | _ => cases h
theorem keysT_strs {l : List (Lit × DataW Unit)} {ks : List (List UInt8)} (h : l.map (fun p => p.1) = ks.map Lit.string) : l.map (fun p => strOf p.1) = ks := by
  have := congrArg (List.map strOf) h
  rw [List.map_map, List.map_map] at this
  have e : (strOf ∘ Lit.string) = id := rfl
  rw [e, List.map_id] at this
  exact this
noncomputable def hSorted : Caller := fun _ args h => match args with
  | [.func (.func f) ⟨[]⟩ ⟨[.pointer (some ⟨i, o, _⟩)]⟩] => match Nat.beq f 381 with
    | true => match Nat.beq o 0 with
      | true => match h.t.get i with
        | some (.cells _ [.map (some j)]) => match h.t.get j with
          | some (.map es) => match keysT es with
            | some ks => match Nat.ble (Nat.mul (llen ks) 16) 140737488355328 with
              | true => match ks with
                | [] => none
                | k :: l => some (.slice (some ⟨h.n, 0, none⟩) (llen (k :: l)) 0, ⟨h.t.set (.row 9 1 ((sortL (k :: l)).map encStr)) h.n, Nat.succ h.n⟩)
              | false => none
            | none => none
          | _ => none
        | _ => none
      | false => none
    | false => none
  | _ => none
theorem vsr_enc {E : Env} : ∀ (l : List (List UInt8)), VsR E (l.map encStr) (l.map encStr)
  | [] => .nil
  | _ :: l => .cons (.string _) (vsr_enc l)
theorem sortsIn (m : Nat) : AnyZ.SortsIn Tryz.prog Tryz.sorted352_ren Fence.wide m :=
  ⟨fun blk off cap ss W hH hblk hsz => callsIn_wide.2 (Tryz.slices_Sort_string blk off cap ss W hH hblk hsz),
   fun p cap W => callsIn_wide.2 (Tryz.slices_Sort_string_none p cap W)⟩
theorem sorted_any {q b nn : Nat} {D0 : DataW Unit} {w : World} (hq : q < w.heap.size) (hm : w.cell? ⟨q, 0, none⟩ = some (.map (some b))) (hown : w.ownsMap Tryz.prog 9 RU b nn D0) (h16 : Maps.size D0 * 16 ≤ 140737488355328) :
    Calls Tryz.prog 352 #[.func (.func 381) #[] #[.pointer (some ⟨q, 0, none⟩)]] w fun e w' => ∃ (v : Value) (ss : List (List UInt8)), e = .returned v ∧ ss.Perm (strKeys D0) ∧
      w'.ownsRow w.heap.size 9 1 v ss.length ((ss.mergeSort (fun x y => decide (x ≤ y))).map encStr) ∧ (v = .slice none 0 0 ↔ ss = []) ∧ Below w.heap.size w w' := by
  have hseq : SeqGives Fence.wide 2 Tryz.prog 381 #[.pointer (some ⟨q, 0, none⟩)] encStr (fun ss => ss.Perm (strKeys D0)) (Maps.size D0) w :=
    AnyZ.keys_gives (ρ := Tryz.keys353_ren) { Tryz.keys353 with } Fence.wide _ trivial rfl (by omega) q b nn D0 w hq hm hown
  exact (callsIn_wide (n := 5)).1 (AnyZ.sorted_in Tryz.sorted352 Fence.wide 5 trivial trivial trivial trivial rfl (by omega) (sortsIn _) (enters_of Tryz.func163 (by kernel_rfl) rfl) 381 #[.pointer (some ⟨q, 0, none⟩)] trivial (enters_of Tryz.func381 (by kernel_rfl) rfl) _ _ (by unfold maxLen; omega) h16 _ hseq)
theorem VR.func_inv {E : Env} {f : FuncId} {xs ys : List Value} {v : Value} (h : VR E (.func (.func f) ⟨xs⟩ ⟨ys⟩) v) : ∃ xs' ys', v = .func (.func f) ⟨xs'⟩ ⟨ys'⟩ ∧ VsR E xs xs' ∧ VsR E ys ys' := by
  generalize e : Value.func (.func f) ⟨xs⟩ ⟨ys⟩ = u at h
  cases h with
  | func h1 h2 =>
    injection e with e1 e2 e3
    injection e1 with e1
    injection e2 with e2
    injection e3 with e3
    subst e1
    subst e2
    subst e3
    exact ⟨_, _, rfl, h1, h2⟩
  | _ => cases e
theorem hSorted_ok : HOk Tryz.prog NG 352 hSorted := by
  intro args h v h' hc
  unfold hSorted at hc
  split at hc
  · rename_i f i o sp
    split at hc
    · rename_i hf
      split at hc
      · rename_i ho
        split at hc
        · rename_i ct j hgi
          split at hc
          · rename_i es hgj
            split at hc
            · rename_i ks hks
              split at hc
              · rename_i h16
                split at hc
                · cases hc
                · rename_i k l
                  cases hc
                  have ef : f = 381 := Nat.eq_of_beq_eq_true hf
                  have eo : o = 0 := Nat.eq_of_beq_eq_true ho
                  subst ef
                  subst eo
                  refine ⟨Nat.le_succ _, fun E F w args' s hg ha hfr => ?_⟩
                  cases ha with
                  | cons hv hs =>
                    cases hs
                    obtain ⟨xs', ys', rfl, hxs, hys⟩ := hv.func_inv
                    cases hxs
                    cases hys with
                    | cons hp hys =>
                      cases hys
                      obtain ⟨p, h1, h2, rfl⟩ := hp.ptr_inv
                      obtain ⟨e1, e2, cs', h4, h5⟩ := s.at_ hgi h1
                      cases h5 with
                      | cons hm hms =>
                        cases hms
                        obtain ⟨q, h6, h7⟩ := hm.map_inv
                        obtain ⟨e3, e4, arr, clk, h8, h9, hst⟩ := s.at_ hgj h6
                        obtain ⟨hrd, hkeys⟩ := keysT_ok h9 hks
                        have hlen : arr.size = (k :: l).length := by
                          have := congrArg List.length hkeys
                          simpa using this
                        rw [llen_eq] at h16
                        have h16' := Nat.le_of_ble_eq_true h16
                        have h16'' : (k :: l).length * 16 ≤ 140737488355328 := h16'
                        have hown : w.ownsMap Tryz.prog 9 RU q.b arr.size (.map ((arr.toList.map (Go.WideElems.rg Tryz.prog 9 RU)).foldr DataW.insert [])) :=
                          ⟨arr, clk, h8, ⟨by unfold maxLen; omega, hst, hrd⟩, Nat.le_refl _, rfl⟩
                        have hperm : (strKeys (.map ((arr.toList.map (Go.WideElems.rg Tryz.prog 9 RU)).foldr DataW.insert []))).Perm (k :: l) := by
                          have h10 := (Go.WideShapes.sorted_perm (arr.toList.map (Go.WideElems.rg Tryz.prog 9 RU))).map fun p => strOf p.1
                          have h11 : (arr.toList.map (Go.WideElems.rg Tryz.prog 9 RU)).map (fun p => strOf p.1) = k :: l := keysT_strs (ks := k :: l) (by rw [List.map_map]; exact hkeys)
                          rw [h11] at h10
                          exact h10
                        have hsz : Maps.size (.map ((arr.toList.map (Go.WideElems.rg Tryz.prog 9 RU)).foldr DataW.insert [])) ≤ arr.size := hown.size_le
                        have hcell : w.cell? ⟨p.b, 0, none⟩ = some (.map (some q.b)) := by
                          simp [World.cell?, h4, h7]
                        have hpl : p.b < w.heap.size := (Array.getElem?_eq_some_iff.1 h4).1
                        rw [show p.o + 0 = 0 from e1]
                        refine (sorted_any hpl hcell hown (by omega)).mono ?_
                        rintro e w' ⟨u, ss, rfl, hS, hrow, hnil, hbl⟩
                        have hS' := hS.trans hperm
                        have hl := hS'.length_eq
                        rw [mergeSort_sortL hS', hl] at hrow
                        have hne : u ≠ .slice none 0 0 := fun h0 => by
                          rw [hnil.1 h0] at hl
                          simp at hl
                        obtain ⟨E', F', hgo, hvr⟩ := Go.own s (hfr h.n (Nat.le_refl _) (Nat.lt_succ_self _)) hbl hrow hne (by decide) (fun E => vsr_enc _)
                        refine ⟨E', F', _, hgo, ?_, rfl⟩
                        rw [llen_eq]
                        exact hvr
              · cases hc
            · cases hc
          · cases hc
        · cases hc
      · cases hc
    · cases hc
  · cases hc
end Go.Proofs.YtbhkfifmgbcknaaGreatDoor.Ex
namespace Go.Proofs.YtbhkfifmgbcknaaGreatDoor.Ex
open Go Go.RowKit
noncomputable def entEq2 (a b : Ent) : Bool := match a with
  | .cells e cs => match b with
    | .cells e' cs' => match Nat.beq e e' with
      | true => lEq (veq 8) cs cs'
      | false => false
    | _ => false
  | .row e s cs => match b with
    | .row e' s' cs' => match Nat.beq e e' with
      | true => match Nat.beq s s' with
        | true => lEq (veq 8) cs cs'
        | false => false
      | false => false
    | _ => false
  | .map _ => false
theorem entEq2_ok {a b : Ent} (h : entEq2 a b = true) : a = b := by
  cases a with
  | cells e cs =>
    cases b with
    | cells e' cs' =>
      have h' : (match Nat.beq e e' with
        | true => lEq (veq 8) cs cs'
        | false => false) = true := h
      cases he : Nat.beq e e' with
      | false => rw [he] at h'; cases h'
      | true =>
        rw [he] at h'
        rw [Nat.eq_of_beq_eq_true he, lEq_ok (fun a b => veq_ok 8 a b) _ _ h']
    | _ => cases h
  | row e s cs =>
    cases b with
    | row e' s' cs' =>
      have h' : (match Nat.beq e e' with
        | true => match Nat.beq s s' with
          | true => lEq (veq 8) cs cs'
          | false => false
        | false => false) = true := h
      cases he : Nat.beq e e' with
      | false => rw [he] at h'; cases h'
      | true =>
        rw [he] at h'
        dsimp only at h'
        cases hs : Nat.beq s s' with
        | false => rw [hs] at h'; cases h'
        | true =>
          rw [hs] at h'
          rw [Nat.eq_of_beq_eq_true he, Nat.eq_of_beq_eq_true hs, lEq_ok (fun a b => veq_ok 8 a b) _ _ h']
    | _ => cases h
  | map es => cases h
noncomputable def told (l : List (Nat × Ent)) (t : T Ent) : Bool :=
  List.rec (motive := fun _ => Bool) true (fun p _ ih => match t.get p.1 with
    | some e => match entEq2 p.2 e with
      | true => ih
      | false => false
    | none => false) l
theorem told_ok : ∀ {l : List (Nat × Ent)} {t : T Ent}, told l t = true → ∀ i e, (i, e) ∈ l → t.get i = some e
  | [], _, _, i, e, h => by cases h
  | p :: l, t, hk, i, e, h => by
    have hk' : (match t.get p.1 with
      | some e => match entEq2 p.2 e with
        | true => told l t
        | false => false
      | none => false) = true := hk
    cases hg : t.get p.1 with
    | none => rw [hg] at hk'; cases hk'
    | some e' =>
      rw [hg] at hk'
      dsimp only at hk'
      cases he : entEq2 p.2 e' with
      | false => rw [he] at hk'; cases hk'
      | true =>
        rw [he] at hk'
        rcases List.mem_cons.1 h with h | h
        · rw [← entEq2_ok he] at hg
          cases h
          exact hg
        · exact told_ok hk' i e h
structure Memo where
  f : FuncId
  args : List Value
  pre : List (Nat × Ent)
  n0 : Nat
  v : Value
  post : List (Nat × Ent)
  n1 : Nat
noncomputable def hasKey (l : List (Nat × Ent)) (i : Nat) : Bool := List.rec (motive := fun _ => Bool) false (fun p _ ih => Bool.rec (motive := fun _ => Bool) ih true (Nat.beq p.1 i)) l
theorem hasKey_ok {l : List (Nat × Ent)} {i : Nat} : hasKey l i = true ↔ ∃ e, (i, e) ∈ l := by
  induction l with
  | nil => exact ⟨(fun h => nomatch h), fun ⟨_, h⟩ => nomatch h⟩
  | cons p l ih =>
    have hd : hasKey (p :: l) i = Bool.rec (motive := fun _ => Bool) (hasKey l i) true (Nat.beq p.1 i) := rfl
    rw [hd]
    cases hb : Nat.beq p.1 i with
    | true =>
      have := Nat.eq_of_beq_eq_true hb
      subst this
      exact ⟨fun _ => ⟨p.2, List.mem_cons_self⟩, fun _ => rfl⟩
    | false =>
      show hasKey l i = true ↔ _
      rw [ih]
      constructor
      · rintro ⟨e, h⟩; exact ⟨e, List.mem_cons_of_mem _ h⟩
      · rintro ⟨e, h⟩
        rcases List.mem_cons.1 h with h | h
        · rw [← h, Nat.beq_refl] at hb; cases hb
        · exact ⟨e, h⟩
noncomputable def within (pre : List (Nat × Ent)) (n0 n1 : Nat) (l : List (Nat × Ent)) : Bool :=
  List.rec (motive := fun _ => Bool) true (fun p _ ih => match hasKey pre p.1 with
    | true => ih
    | false => match Nat.ble n0 p.1 with
      | true => match Nat.ble (Nat.succ p.1) n1 with
        | true => ih
        | false => false
      | false => false) l
theorem within_ok {pre : List (Nat × Ent)} {n0 n1 : Nat} : ∀ {l : List (Nat × Ent)}, within pre n0 n1 l = true → ∀ i e, (i, e) ∈ l → (∃ e', (i, e') ∈ pre) ∨ (n0 ≤ i ∧ i < n1)
  | [], _, i, e, h => by cases h
  | p :: l, hk, i, e, h => by
    have hk' : (match hasKey pre p.1 with
      | true => within pre n0 n1 l
      | false => match Nat.ble n0 p.1 with
        | true => match Nat.ble (Nat.succ p.1) n1 with
          | true => within pre n0 n1 l
          | false => false
        | false => false) = true := hk
    cases h1 : hasKey pre p.1 with
    | true =>
      rw [h1] at hk'
      rcases List.mem_cons.1 h with h | h
      · rw [← h] at h1
        exact .inl (hasKey_ok.1 h1)
      · exact within_ok hk' i e h
    | false =>
      rw [h1] at hk'
      dsimp only at hk'
      cases h2 : Nat.ble n0 p.1 with
      | false => rw [h2] at hk'; cases hk'
      | true =>
        rw [h2] at hk'
        dsimp only at hk'
        cases h3 : Nat.ble (Nat.succ p.1) n1 with
        | false => rw [h3] at hk'; cases hk'
        | true =>
          rw [h3] at hk'
          rcases List.mem_cons.1 h with h | h
          · rw [← h] at h2 h3
            exact .inr ⟨Nat.le_of_ble_eq_true h2, Nat.le_of_ble_eq_true h3⟩
          · exact within_ok hk' i e h
noncomputable def Memo.good (P : Program) (ng : Nat) (hk : Hook) (fuel : Nat) (m : Memo) : Bool :=
  match within m.pre m.n0 m.n1 m.post with
  | true => match callWith P hk (exec P ng hk fuel) m.f m.args ⟨tabG m.pre, m.n0⟩ with
    | some (v, h) => match veq 8 v m.v with
      | true => match Nat.ble h.n m.n1 with
        | true => told m.post h.t
        | false => false
      | false => false
    | none => false
  | false => false
noncomputable def delAll (l : List (Nat × Ent)) (t : T Ent) : T Ent := List.rec (motive := fun _ => T Ent) t (fun p _ ih => ih.del p.1) l
noncomputable def setAll (l : List (Nat × Ent)) (t : T Ent) : T Ent := List.rec (motive := fun _ => T Ent) t (fun p _ ih => ih.set p.2 p.1) l
theorem delAll_get {t : T Ent} {i : Nat} {e : Ent} : ∀ {l : List (Nat × Ent)}, (delAll l t).get i = some e → t.get i = some e ∧ ¬∃ e', (i, e') ∈ l
  | [], h => ⟨h, fun ⟨_, h⟩ => nomatch h⟩
  | p :: l, h => by
    have h' : ((delAll l t).del p.1).get i = some e := h
    rw [T.get_del] at h'
    by_cases hi : i = p.1
    · rw [if_pos hi] at h'; cases h'
    · rw [if_neg hi] at h'
      obtain ⟨h1, h2⟩ := delAll_get h'
      refine ⟨h1, fun ⟨e', he⟩ => ?_⟩
      rcases List.mem_cons.1 he with he | he
      · rw [← he] at hi; exact hi rfl
      · exact h2 ⟨e', he⟩
theorem setAll_get {t : T Ent} {i : Nat} {e : Ent} : ∀ {l : List (Nat × Ent)}, (setAll l t).get i = some e → (i, e) ∈ l ∨ t.get i = some e
  | [], h => .inr h
  | p :: l, h => by
    have h' : ((setAll l t).set p.2 p.1).get i = some e := h
    rw [T.get_set] at h'
    by_cases hi : i = p.1
    · rw [if_pos hi] at h'
      cases h'
      rw [hi]
      exact .inl List.mem_cons_self
    · rw [if_neg hi] at h'
      rcases setAll_get h' with h1 | h1
      · exact .inl (List.mem_cons_of_mem _ h1)
      · exact .inr h1
noncomputable def hMemo (m : Memo) : Caller := fun _ args h => match Nat.ble h.n m.n0 with
  | true => match lEq (veq 8) args m.args with
    | true => match told m.pre h.t with
      | true => some (m.v, ⟨setAll m.post (delAll m.pre h.t), m.n1⟩)
      | false => none
    | false => none
  | false => none
theorem Memo.ok {P : Program} (hN : noNum P = true) (hmx : P.follows .mixedOrders = true) {ng fuel : Nat} {hk : Hook} (ho : HkOk P ng hk) (hm : HkMn hk) {m : Memo} (hgood : m.good P ng hk fuel = true) : HOk P ng m.f (hMemo m) := by
  intro args h v h' hc
  unfold hMemo at hc
  split at hc
  · rename_i hn0
    split at hc
    · rename_i hargs
      split at hc
      · rename_i hpre
        cases hc
        have hn0' := Nat.le_of_ble_eq_true hn0
        have hargs' := lEq_ok (fun a b => veq_ok 8 a b) _ _ hargs
        subst hargs'
        unfold Memo.good at hgood
        split at hgood
        · rename_i hwi
          split at hgood
          · rename_i v1 h1 hrun
            split at hgood
            · rename_i hv
              split at hgood
              · rename_i hn1
                have hv' := veq_ok 8 _ _ hv
                subst hv'
                have hn1' := Nat.le_of_ble_eq_true hn1
                have hmn := callMn_of (P := P) hm (exec_mn P ng hm fuel) _ _ _ _ _ hrun
                dsimp only at hmn
                refine ⟨by dsimp only; omega, fun E F w args' s hg ha hfr => ?_⟩
                dsimp only at hfr
                have s0 : St E F ⟨tabG m.pre, m.n0⟩ w := ⟨s.rel, fun i e hi => s.sub i e (told_ok hpre i e (tabG_get hi))⟩
                have hfr0 : Free E m.n0 h1.n := fun i a b => hfr i (by omega) (by omega)
                refine (callOk_of ho (exec_ok hN hmx ng ho hm fuel) m.f m.args _ _ h1 hrun E F w args' s0 hg ha hfr0).mono ?_
                rintro e w' ⟨E', F', v', hgo, hvr, rfl⟩
                refine ⟨E', F', v', ⟨⟨hgo.step.le, hgo.step.rel, hgo.step.own, hgo.step.frame, hgo.step.size, hgo.step.os, hgo.step.tape, hgo.step.output, by dsimp only; omega, fun i hi => hgo.step.out i (by dsimp only at hi ⊢; omega)⟩, ⟨?_, ?_, ?_, by dsimp only; omega⟩⟩, hvr, rfl⟩
                · intro i e hi
                  rcases setAll_get hi with h2 | h2
                  · exact hgo.fits.sub i e (told_ok hgood i e h2)
                  · obtain ⟨h3, h4⟩ := delAll_get h2
                    have hF := s.sub i e h3
                    obtain ⟨p, hp, -⟩ := s.rel.at_ i e hF
                    have hout : i < m.n0 ∨ h1.n ≤ i := by
                      rcases Nat.lt_or_ge i m.n0 with h5 | h5
                      · exact .inl h5
                      · rcases Nat.lt_or_ge i h1.n with h6 | h6
                        · rw [hfr0 i h5 h6] at hp; cases hp
                        · exact .inr h6
                    rw [hgo.fits.keep i hout (by
                      show (tabG m.pre).get i = none
                      cases hg2 : (tabG m.pre).get i with
                      | none => rfl
                      | some e2 => exact absurd ⟨e2, tabG_get hg2⟩ h4)]
                    exact hF
                · intro i hi hn
                  have hi' : i < h.n ∨ m.n1 ≤ i := hi
                  refine hgo.fits.keep i (by dsimp only; omega) ?_
                  show (tabG m.pre).get i = none
                  cases hg2 : (tabG m.pre).get i with
                  | none => rfl
                  | some e2 =>
                    rw [told_ok hpre i e2 (tabG_get hg2)] at hn
                    cases hn
                · intro i hi hn
                  have hi' : i < h.n ∨ m.n1 ≤ i := hi
                  show (setAll m.post (delAll m.pre h.t)).get i = none
                  cases hg2 : (setAll m.post (delAll m.pre h.t)).get i with
                  | none => rfl
                  | some e2 =>
                    rcases setAll_get hg2 with h2 | h2
                    · rcases within_ok hwi i e2 h2 with ⟨e3, h3⟩ | ⟨h3, h4⟩
                      · rw [told_ok hpre i e3 h3] at hn; cases hn
                      · omega
                    · obtain ⟨h3, -⟩ := delAll_get h2
                      rw [hn] at h3; cases h3
              · cases hgood
            · cases hgood
          · cases hgood
        · cases hgood
      · cases hc
    · cases hc
  · cases hc
noncomputable def orElse (a b : Caller) : Caller := fun f args h => match a f args h with
  | some r => some r
  | none => b f args h
theorem HOk.or {P : Program} {ng : Nat} {f : FuncId} {a b : Caller} (ha : HOk P ng f a) (hb : HOk P ng f b) : HOk P ng f (orElse a b) := by
  intro args h v h' hc
  unfold orElse at hc
  split at hc
  · rename_i r hr
    cases hc
    exact ha args h v h' hr
  · exact hb args h v h' hc
end Go.Proofs.YtbhkfifmgbcknaaGreatDoor.Ex
namespace Go.Proofs.YtbhkfifmgbcknaaGreatDoor
open Go
structure E (α : Type) where
  c : Int
  t : Int
  x : α
variable {α : Type}
def E.lt (a b : E α) : Prop := a.c < b.c ∨ a.c = b.c ∧ a.t < b.t
instance (a b : E α) : Decidable (a.lt b) := inferInstanceAs (Decidable (_ ∨ _))
theorem E.lt_trans {a b c : E α} (h : a.lt b) (h' : b.lt c) : a.lt c := by unfold E.lt at *; omega
theorem E.not_lt {a b : E α} (h : a.lt b) : ¬ b.lt a := by unfold E.lt at *; omega
inductive Tr (α : Type) where
  | nil
  | node (e : E α) (h : Int) (l r : Tr α)
namespace Tr
def els : Tr α → List (E α)
  | nil => []
  | node e _ l r => e :: (els l ++ els r)
def high : Tr α → Int
  | nil => 0
  | node _ h _ _ => h
def above (e : E α) (l r : Tr α) : Tr α := if l.high < r.high then node e (l.high + 1) r l else node e (r.high + 1) l r
def size : Tr α → Nat
  | nil => 0
  | node _ _ l r => l.size + r.size + 1
def merge : Tr α → Tr α → Tr α
  | nil, b => b
  | node ea ha la ra, nil => node ea ha la ra
  | node ea ha la ra, node eb hb lb rb => if eb.lt ea then above eb lb (merge rb (node ea ha la ra)) else above ea la (merge ra (node eb hb lb rb))
termination_by a b => a.size + b.size
decreasing_by all_goals simp only [size]; omega
def ok : Tr α → Prop
  | nil => True
  | node e h l r => (∀ x ∈ els l ++ els r, ¬ x.lt e) ∧ 0 ≤ h ∧ h ≤ l.size + r.size + 1 ∧ ok l ∧ ok r
theorem size_els : ∀ t : Tr α, t.size = t.els.length
  | nil => rfl
  | node e h l r => by simp only [size, els, List.length_cons, List.length_append, size_els l, size_els r]
theorem ok.high {t : Tr α} (h : t.ok) : 0 ≤ t.high ∧ t.high ≤ t.size := by
  cases t with
  | nil => exact ⟨Int.le_refl _, Int.le_refl _⟩
  | node e k l r => obtain ⟨_, h1, h2, _⟩ := h; simp only [Tr.high, size]; omega
theorem above_els (e : E α) (l r : Tr α) : (above e l r).els.Perm (e :: (l.els ++ r.els)) := by
  unfold above
  split
  · exact List.Perm.cons _ List.perm_append_comm
  · exact List.Perm.refl _
theorem above_ok {e : E α} {l r : Tr α} (hl : l.ok) (hr : r.ok) (h : ∀ x ∈ l.els ++ r.els, ¬ x.lt e) : (above e l r).ok := by
  have a := hl.high
  have b := hr.high
  unfold above
  split
  · refine ⟨fun x hx => h x ?_, by omega, by omega, hr, hl⟩
    simp only [List.mem_append] at hx ⊢
    exact hx.symm
  · exact ⟨h, by omega, by omega, hl, hr⟩
theorem merge_nil (b : Tr α) : merge nil b = b := by cases b <;> rw [merge]
theorem merge_nil' (a : Tr α) : merge a nil = a := by cases a <;> rw [merge]
theorem merge_lt {ea eb : E α} {ha hb : Int} {la ra lb rb : Tr α} (h : eb.lt ea) : merge (node ea ha la ra) (node eb hb lb rb) = above eb lb (merge rb (node ea ha la ra)) := by rw [merge, if_pos h]
theorem merge_ge {ea eb : E α} {ha hb : Int} {la ra lb rb : Tr α} (h : ¬ eb.lt ea) : merge (node ea ha la ra) (node eb hb lb rb) = above ea la (merge ra (node eb hb lb rb)) := by rw [merge, if_neg h]
theorem merge_els : ∀ (n : Nat) (a b : Tr α), a.size + b.size = n → (merge a b).els.Perm (a.els ++ b.els) := by
  intro n
  induction n using Nat.strongRecOn with
  | ind n ih =>
    intro a b hn
    cases a with
    | nil => rw [merge_nil]; exact List.Perm.refl _
    | node ea ha la ra =>
      cases b with
      | nil => rw [merge_nil', els, List.append_nil]
      | node eb hb lb rb =>
        by_cases h : eb.lt ea
        · rw [merge_lt h]
          have i := ih _ (by simp only [size] at hn ⊢; omega) rb (node ea ha la ra) rfl
          refine (above_els _ _ _).trans ?_
          have : (node ea ha la ra).els ++ (node eb hb lb rb).els = (node ea ha la ra).els ++ (eb :: (lb.els ++ rb.els)) := rfl
          rw [this]
          refine List.Perm.trans (List.Perm.cons _ ?_) List.perm_middle.symm
          refine (List.Perm.append_left _ i).trans ?_
          rw [← List.append_assoc]
          exact List.perm_append_comm
        · rw [merge_ge h]
          have i := ih _ (by simp only [size] at hn ⊢; omega) ra (node eb hb lb rb) rfl
          refine (above_els _ _ _).trans ?_
          show (ea :: _).Perm (ea :: ((la.els ++ ra.els) ++ (node eb hb lb rb).els))
          refine List.Perm.cons _ ((List.Perm.append_left _ i).trans ?_)
          rw [List.append_assoc]
theorem merge_ok : ∀ (n : Nat) (a b : Tr α), a.size + b.size = n → a.ok → b.ok → (merge a b).ok := by
  intro n
  induction n using Nat.strongRecOn with
  | ind n ih =>
    intro a b hn oa ob
    cases a with
    | nil => rw [merge_nil]; exact ob
    | node ea ha la ra =>
      cases b with
      | nil => rw [merge_nil']; exact oa
      | node eb hb lb rb =>
        have oa' := oa
        have ob' := ob
        obtain ⟨a1, _, _, a2, a3⟩ := oa'
        obtain ⟨b1, _, _, b2, b3⟩ := ob'
        by_cases h : eb.lt ea
        · rw [merge_lt h]
          refine above_ok b2 (ih _ (by simp only [size] at hn ⊢; omega) rb (node ea ha la ra) rfl b3 oa) fun x hx => ?_
          rw [List.mem_append, (merge_els _ rb (node ea ha la ra) rfl).mem_iff, List.mem_append] at hx
          rcases hx with hx | hx | hx
          · exact b1 x (by simp [hx])
          · exact b1 x (by simp [hx])
          · simp only [els, List.mem_cons] at hx
            rcases hx with rfl | hx
            · exact E.not_lt h
            · exact fun h' => a1 x hx (E.lt_trans h' h)
        · rw [merge_ge h]
          refine above_ok a2 (ih _ (by simp only [size] at hn ⊢; omega) ra (node eb hb lb rb) rfl a3 ob) fun x hx => ?_
          rw [List.mem_append, (merge_els _ ra (node eb hb lb rb) rfl).mem_iff, List.mem_append] at hx
          rcases hx with hx | hx | hx
          · exact a1 x (by simp [hx])
          · exact a1 x (by simp [hx])
          · simp only [els, List.mem_cons] at hx
            rcases hx with rfl | hx
            · exact h
            · intro h'
              have := b1 x hx
              unfold E.lt at *
              omega
theorem merge_size (a b : Tr α) : (merge a b).size = a.size + b.size := by
  rw [size_els, size_els, size_els, (merge_els _ a b rfl).length_eq, List.length_append]
end Tr
def Sorted (q : List (E α)) : Prop := q.Pairwise E.lt
structure Hp (t : Tr α) (q : List (E α)) : Prop where
  ok : t.ok
  perm : t.els.Perm q
  sorted : Sorted q
theorem Hp.nil : Hp (Tr.nil : Tr α) [] := ⟨trivial, List.Perm.refl _, List.Pairwise.nil⟩
theorem Hp.size {t : Tr α} {q : List (E α)} (h : Hp t q) : t.size = q.length := by rw [Tr.size_els, h.perm.length_eq]
theorem Hp.empty {q : List (E α)} (h : Hp (Tr.nil : Tr α) q) : q = [] := by
  have := h.size
  simp only [Tr.size] at this
  exact List.eq_nil_of_length_eq_zero this.symm
theorem Hp.node {t : Tr α} {e : E α} {q : List (E α)} (h : Hp t (e :: q)) : ∃ k l r, t = .node e k l r ∧ Hp (Tr.merge l r) q := by
  cases t with
  | nil => have := h.empty; cases this
  | node e' k l r =>
    obtain ⟨ho, hp, hs⟩ := h
    obtain ⟨o1, o2, o3, o4, o5⟩ := ho
    have hs' := hs
    unfold Sorted at hs'
    rw [List.pairwise_cons] at hs'
    have m1 : e ∈ (Tr.node e' k l r).els := hp.mem_iff.2 (List.mem_cons_self ..)
    have m2 : e' ∈ e :: q := hp.mem_iff.1 (by simp [Tr.els])
    have ee : e' = e := by
      rcases List.mem_cons.1 m2 with m2 | m2
      · exact m2
      · simp only [Tr.els, List.mem_cons] at m1
        rcases m1 with m1 | m1
        · exact m1.symm
        · exact absurd (hs'.1 _ m2) (o1 _ m1)
    subst ee
    refine ⟨k, l, r, rfl, Tr.merge_ok _ l r rfl o4 o5, ?_, hs'.2⟩
    exact (Tr.merge_els _ l r rfl).trans (List.Perm.cons_inv hp)
theorem Hp.put {t : Tr α} {q : List (E α)} (h : Hp t q) (e : E α) (k : Nat) (ht : ∀ x ∈ q, x.t < e.t) (h1 : ∀ x ∈ q.take k, x.c ≤ e.c) (h2 : ∀ x ∈ q.drop k, e.c < x.c) :
    Hp (Tr.merge t (.node e 1 .nil .nil)) (q.take k ++ e :: q.drop k) := by
  obtain ⟨ho, hp, hs⟩ := h
  refine ⟨Tr.merge_ok _ _ _ rfl ho ⟨by simp [Tr.els], by decide, by simp [Tr.size], trivial, trivial⟩, ?_, ?_⟩
  · refine (Tr.merge_els _ _ _ rfl).trans ?_
    refine List.Perm.trans ?_ List.perm_middle.symm
    rw [List.take_append_drop]
    simp only [Tr.els, List.append_nil]
    refine (List.Perm.append_right _ hp).trans ?_
    exact List.perm_append_comm
  · have hs' := hs
    unfold Sorted at hs' ⊢
    rw [← List.take_append_drop k q, List.pairwise_append] at hs'
    obtain ⟨s1, s2, s3⟩ := hs'
    rw [List.pairwise_append, List.pairwise_cons]
    refine ⟨s1, ⟨fun b hb => .inl (h2 b hb), s2⟩, fun a ha b hb => ?_⟩
    rcases List.mem_cons.1 hb with rfl | hb
    · have := h1 a ha
      have := ht a (List.mem_of_mem_take ha)
      unfold E.lt
      omega
    · exact s3 a ha b hb
theorem Sorted.le {q : List (E α)} (h : Sorted q) {i j : Nat} (hij : i ≤ j) {a b : E α} (ha : q[i]? = some a) (hb : q[j]? = some b) : a.c ≤ b.c := by
  obtain ⟨hi, rfl⟩ := List.getElem?_eq_some_iff.1 ha
  obtain ⟨hj, rfl⟩ := List.getElem?_eq_some_iff.1 hb
  rcases Nat.lt_or_eq_of_le hij with h' | h'
  · have := List.pairwise_iff_getElem.1 h i j hi hj h'
    unfold E.lt at this
    omega
  · subst h'; exact Int.le_refl _
end Go.Proofs.YtbhkfifmgbcknaaGreatDoor
