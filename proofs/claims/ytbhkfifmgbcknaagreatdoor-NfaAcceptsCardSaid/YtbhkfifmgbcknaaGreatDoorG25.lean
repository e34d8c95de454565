/-
  A part of the proof of the statement NfaAccepts.
-/
import Derived.Test.YtbhkfifmgbcknaaGreatDoorG24
import Derived.Test.YtbhkfifmgbcknaaGreatDoorG07
import Derived.Test.YtbhkfifmgbcknaaGreatDoorG04
import Derived.Lib.Bytealg
import Derived.Shelf.SlIter.Nil
import Derived.Ground.GgzProg
set_option linter.unusedSimpArgs false
set_option linter.unusedVariables false
namespace Go.Proofs.YtbhkfifmgbcknaaGreatDoor.Ex
open Go Go.RowKit
abbrev NG : Nat := Nat.succ 5
noncomputable def int64Of (v : Value) : Option Int := match v with
  | .int k c => match Nat.beq (ikN k) 3 with
    | true => some c
    | false => none
  | _ => none
theorem int64Of_ok {E : Env} {v v' : Value} {c : Int} (h : int64Of v = some c) (hv : VR E v v') : v' = .int .i64 c := by
  unfold int64Of at h
  split at h
  · rename_i k c'
    split at h
    · rename_i hk
      cases h
      have ek : k = .i64 := ikN_inj hk
      subst ek
      exact hv.int_inv
    · cases h
  · cases h
noncomputable def isErrno (v : Value) : Option Int := match v with
  | .iface t x => match Nat.beq t 128 with
    | true => int64Of x
    | false => none
  | _ => none
theorem isErrno_ok {E : Env} {v v' : Value} {c : Int} (h : isErrno v = some c) (hv : VR E v v') : v' = .iface 128 (.int .i64 c) := by
  unfold isErrno at h
  split at h
  · split at h
    · rename_i ht
      obtain ⟨u', e, hu⟩ := hv.iface_inv
      rw [e, int64Of_ok h hu, Nat.eq_of_beq_eq_true ht]
    · cases h
  · cases h
noncomputable def ptrIn (T : TypeId) (v : Value) : Option Nat := match v with
  | .iface t (.pointer (some ⟨i, o, _⟩)) => match Nat.beq t T with
    | true => match Nat.beq o 0 with
      | true => some i
      | false => none
    | false => none
  | _ => none
theorem ptrIn_ok {E : Env} {T : TypeId} {v v' : Value} {i : Nat} (h : ptrIn T v = some i) (hv : VR E v v') : ∃ p, E i = some p ∧ v' = .iface T (.pointer (some ⟨p.b, p.o, none⟩)) := by
  unfold ptrIn at h
  split at h
  · split at h
    · rename_i ht
      split at h
      · rename_i ho
        cases h
        obtain ⟨u', e, hu⟩ := hv.iface_inv
        obtain ⟨p, h1, -, h3⟩ := hu.ptr_inv
        refine ⟨p, h1, ?_⟩
        rw [e, h3, Nat.eq_of_beq_eq_true ht, Nat.eq_of_beq_eq_true ho]; rfl
      · cases h
    · cases h
  · cases h
noncomputable def pair (h : H) (i : Nat) : Option (Value × Value) := match h.t.get i with
  | some (.cells _ [x, y]) => some (x, y)
  | _ => none
theorem pair_ok {E : Env} {F : Full} {h : H} {w : World} (s : St E F h w) {i : Nat} {x y : Value} {p : Pl} (hp : pair h i = some (x, y)) (he : E i = some p) :
    p.o = 0 ∧ p.b < w.heap.size ∧ ∃ x' y', w.cell? ⟨p.b, 0, none⟩ = some x' ∧ w.cell? ⟨p.b, 1, none⟩ = some y' ∧ VR E x x' ∧ VR E y y' := by
  unfold pair at hp
  split at hp
  · rename_i t x0 y0 hg
    cases hp
    have hat := s.at_ hg he
    have hlt := hat.lt
    obtain ⟨e1, -, cs', h3, h4⟩ := hat
    cases h4 with
    | cons hx hs =>
      cases hs with
      | cons hy hs =>
        cases hs
        exact ⟨e1, hlt, _, _, by simp [World.cell?, h3], by simp [World.cell?, h3], hx, hy⟩
  · cases hp
inductive Bs where
  | errno (c : Int)
  | fault (i : Nat) (c a : Int)
noncomputable def chase (h : H) (n : Nat) : Value → Option Bs :=
  Nat.rec (motive := fun _ => Value → Option Bs) (fun _ => none) (fun _ ih v => match isErrno v with
    | some c => some (.errno c)
    | none => match ptrIn 154 v with
      | some i => match pair h i with
        | some (x, y) => match int64Of x with
          | some c => match int64Of y with
            | some a => some (.fault i c a)
            | none => none
          | none => none
        | none => none
      | none => match ptrIn 167 v with
        | some i => match pair h i with
          | some (.string _, u) => ih u
          | _ => none
        | none => none) n
def Bs.base (E : Env) (b : Bs) (r : Base) : Prop := match b with
  | .errno c => r = .errno c
  | .fault i c a => ∃ p, E i = some p ∧ p.o = 0 ∧ r = .fault p.b c a
theorem chase_ok {E : Env} {F : Full} {h : H} {w : World} (s : St E F h w) : ∀ (n : Nat) (v v' : Value) (b : Bs), chase h n v = some b → VR E v v' → ∃ ws r, ChainAt w r ws v' ∧ b.base E r
  | 0, _, _, _, h, _ => by cases h
  | n + 1, v, v', b, hc, hv => by
    have hc' : (match isErrno v with
      | some c => some (.errno c)
      | none => match ptrIn 154 v with
        | some i => match pair h i with
          | some (x, y) => match int64Of x with
            | some c => match int64Of y with
              | some a => some (.fault i c a)
              | none => none
            | none => none
          | none => none
        | none => match ptrIn 167 v with
          | some i => match pair h i with
            | some (.string _, u) => chase h n u
            | _ => none
          | none => none) = some b := hc
    split at hc'
    · rename_i c hi
      cases hc'
      exact ⟨[], .errno c, isErrno_ok hi hv, rfl⟩
    · split at hc'
      · rename_i i hp
        split at hc'
        · rename_i x y hpr
          split at hc'
          · rename_i c hx
            split at hc'
            · rename_i a hy
              cases hc'
              obtain ⟨p, h1, h2⟩ := ptrIn_ok hp hv
              obtain ⟨h3, h4, x', y', h5, h6, h7, h8⟩ := pair_ok s hpr h1
              rw [int64Of_ok hx h7] at h5
              rw [int64Of_ok hy h8] at h6
              rw [h3] at h2
              exact ⟨[], .fault p.b c a, ⟨h2, h4, h5, h6⟩, p, h1, h3, rfl⟩
            · cases hc'
          · cases hc'
        · cases hc'
      · split at hc'
        · rename_i i hp
          split at hc'
          · rename_i sx u hpr
            obtain ⟨p, h1, h2⟩ := ptrIn_ok hp hv
            obtain ⟨h3, h4, x', y', h5, h6, h7, h8⟩ := pair_ok s hpr h1
            rw [h7.string_inv] at h5
            rw [h3] at h2
            obtain ⟨ws, r, h9, h10⟩ := chase_ok s n u y' b hc' h8
            exact ⟨sx :: ws, r, ⟨p.b, y', h2, h4, h5, h6, h9⟩, h10⟩
          · cases hc'
        · cases hc'
noncomputable def setBox (h : H) (t : Nat) (x : Value) : Option (Value × H) := match h.t.get t with
  | some (.cells e [_]) => some (.bool true, ⟨h.t.set (.cells e [x]) t, h.n⟩)
  | _ => none
noncomputable def isNilV (v : Value) : Bool := match v with
  | .nilIface => true
  | _ => false
noncomputable def hAs2 (h : H) (v tg : Value) : Option (Value × H) := match ptrIn 203 tg with
  | some t => match chase h 30 v with
    | some (.errno c) => setBox h t (.int .i64 c)
    | some (.fault _ c _) => setBox h t (.int .i64 c)
    | none => none
  | none => match ptrIn 204 tg with
    | some t => match chase h 30 v with
      | some (.errno _) => some (.bool false, h)
      | some (.fault i _ _) => setBox h t (.pointer (some ⟨i, 0, none⟩))
      | none => none
    | none => match ptrIn 202 tg with
      | some t => match ptrIn 167 v with
        | some i => match pair h i with
          | some _ => setBox h t (.pointer (some ⟨i, 0, none⟩))
          | none => none
        | none => match ptrIn 154 v with
          | some i => match pair h i with
            | some (x, y) => match int64Of x with
              | some _ => match int64Of y with
                | some _ => some (.bool false, h)
                | none => none
              | none => none
            | none => none
          | none => match isErrno v with
            | some _ => some (.bool false, h)
            | none => none
      | none => none
noncomputable def hAs : Caller := fun _ args h => match args with
  | [v, tg] => match isNilV v with
    | true => some (.bool false, h)
    | false => hAs2 h v tg
  | _ => none
theorem setBox_ok {E : Env} {F : Full} {h : H} {w w' : World} (s : St E F h w) {t : Nat} {x x' u : Value} {h' : H} {p : Pl} (hs : setBox h t x = some (u, h')) (he : E t = some p) (hx : VR E x x') (hset : Sets w ⟨p.b, 0, none⟩ x' w') :
    u = .bool true ∧ h.n ≤ h'.n ∧ ∃ F', Go E F h w E F' h' w' := by
  unfold setBox at hs
  split at hs
  · rename_i e old hg
    cases hs
    obtain ⟨w1, hb, rfl⟩ := hset
    have g1 := Go.below s hb
    obtain ⟨g2, -⟩ := Go.cell (P := Tryz.prog) g1.st hg he hx
    exact ⟨rfl, Nat.le_refl _, _, g1.trans g2⟩
  · cases hs
theorem setBox_cell {E : Env} {F : Full} {h : H} {w : World} (s : St E F h w) {t : Nat} {x u : Value} {h' : H} {p : Pl} (hs : setBox h t x = some (u, h')) (he : E t = some p) : p.o = 0 ∧ (∃ o, w.cell? ⟨p.b, 0, none⟩ = some o) ∧ w.frozen? ⟨p.b, 0, none⟩ = false ∧ h'.n = h.n := by
  unfold setBox at hs
  split at hs
  · rename_i e old hg
    cases hs
    obtain ⟨-, h1, h2, h3⟩ := Go.cell (P := Tryz.prog) s hg he (VR.bool true)
    exact ⟨h1, h2, h3, rfl⟩
  · cases hs
theorem hAs_n {h : H} {v tg u : Value} {h' : H} (hc : hAs2 h v tg = some (u, h')) : h'.n = h.n := by
  unfold hAs2 setBox at hc
  repeat' split at hc
  all_goals first
    | (cases hc; rfl)
    | cases hc
theorem hAs_ok : HOk Tryz.prog NG 142 hAs := by
  intro args h v h' hc
  unfold hAs at hc
  split at hc
  · rename_i x tg
    split at hc
    · rename_i hn
      cases hc
      refine ⟨Nat.le_refl _, fun E F w args' s hg ha _ => ?_⟩
      have hx : x = .nilIface := by
        unfold isNilV at hn
        split at hn
        · rfl
        · cases hn
      subst hx
      cases ha with
      | cons hv hs =>
        cases hs with
        | cons ht hs =>
          cases hs
          rw [hv.iface0_inv]
          refine (as_nil _ w).mono ?_
          rintro e w' ⟨rfl, rfl⟩
          exact ⟨E, F, _, Go.refl s, .bool false, rfl⟩
    · refine ⟨Nat.le_of_eq (hAs_n hc).symm, fun E F w args' s hg ha _ => ?_⟩
      cases ha with
      | cons hv hs =>
        cases hs with
        | cons ht hs =>
          cases hs
          rename_i x' tg'
          have hH : Handle w := s.rel.kn.1
          unfold hAs2 at hc
          split at hc
          · rename_i t htg
            obtain ⟨p, hp, rfl⟩ := ptrIn_ok htg ht
            split at hc
            · rename_i c hch
              obtain ⟨ws, r, h1, h2⟩ := chase_ok s 30 _ _ _ hch hv
              obtain ⟨e1, ⟨old, h3⟩, h4, -⟩ := setBox_cell s hc hp
              rw [e1]
              have hr : r.code = some c := by rw [show r = .errno c from h2]; rfl
              refine (as_code w.heap.size r c hr ws x' ⟨p.b, 0, none⟩ old w (Nat.le_refl _) h1 hH h3 h4).mono ?_
              rintro e w' ⟨rfl, hset⟩
              obtain ⟨rfl, -, F', g⟩ := setBox_ok s hc hp (VR.int .i64 c) hset
              exact ⟨E, F', _, g, .bool true, rfl⟩
            · rename_i i c a hch
              obtain ⟨ws, r, h1, h2⟩ := chase_ok s 30 _ _ _ hch hv
              obtain ⟨e1, ⟨old, h3⟩, h4, -⟩ := setBox_cell s hc hp
              rw [e1]
              obtain ⟨pf, -, -, hr0⟩ := h2
              have hr : r.code = some c := by rw [hr0]; rfl
              refine (as_code w.heap.size r c hr ws x' ⟨p.b, 0, none⟩ old w (Nat.le_refl _) h1 hH h3 h4).mono ?_
              rintro e w' ⟨rfl, hset⟩
              obtain ⟨rfl, -, F', g⟩ := setBox_ok s hc hp (VR.int .i64 c) hset
              exact ⟨E, F', _, g, .bool true, rfl⟩
            · cases hc
          · split at hc
            · rename_i t htg
              obtain ⟨p, hp, rfl⟩ := ptrIn_ok htg ht
              split at hc
              · rename_i c hch
                cases hc
                obtain ⟨ws, r, h1, h2⟩ := chase_ok s 30 _ _ _ hch hv
                have hr : ∀ b c a, r ≠ .fault b c a := by rw [show r = .errno c from h2]; exact fun _ _ _ h => nomatch h
                refine (as_fault_no w.heap.size r hr ws x' _ w (Nat.le_refl _) h1 hH).mono ?_
                rintro e w' ⟨rfl, hb⟩
                exact ⟨E, F, _, Go.below s hb, .bool false, rfl⟩
              · rename_i i c a hch
                obtain ⟨ws, r, h1, h2⟩ := chase_ok s 30 _ _ _ hch hv
                obtain ⟨e1, ⟨old, h3⟩, h4, -⟩ := setBox_cell s hc hp
                rw [e1]
                obtain ⟨pf, hpf, hpo, rfl⟩ := h2
                refine (as_fault w.heap.size pf.b c a ws x' ⟨p.b, 0, none⟩ old w (Nat.le_refl _) h1 hH h3 h4).mono ?_
                rintro e w' ⟨rfl, hset⟩
                have hvr : VR E (.pointer (some ⟨i, 0, none⟩)) (.pointer (some ⟨pf.b, 0, none⟩)) := by
                  have := VR.ptr (E := E) (o := 0) hpf
                  rw [hpo] at this
                  exact this
                obtain ⟨rfl, -, F', g⟩ := setBox_ok s hc hp hvr hset
                exact ⟨E, F', _, g, .bool true, rfl⟩
              · cases hc
            · split at hc
              · rename_i t htg
                obtain ⟨p, hp, rfl⟩ := ptrIn_ok htg ht
                split at hc
                · rename_i i hi
                  split at hc
                  · rename_i q hpr
                    obtain ⟨e1, ⟨old, h3⟩, h4, -⟩ := setBox_cell s hc hp
                    rw [e1]
                    obtain ⟨pf, hpf, rfl⟩ := ptrIn_ok hi hv
                    obtain ⟨hpo, -⟩ := pair_ok s (x := q.1) (y := q.2) hpr hpf
                    rw [hpo]
                    refine (as_place pf.b ⟨p.b, 0, none⟩ old w hH h3 h4).mono ?_
                    rintro e w' ⟨rfl, hset⟩
                    have hvr : VR E (.pointer (some ⟨i, 0, none⟩)) (.pointer (some ⟨pf.b, 0, none⟩)) := by
                      have := VR.ptr (E := E) (o := 0) hpf
                      rw [hpo] at this
                      exact this
                    obtain ⟨rfl, -, F', g⟩ := setBox_ok s hc hp hvr hset
                    exact ⟨E, F', _, g, .bool true, rfl⟩
                  · cases hc
                · split at hc
                  · rename_i i hi
                    split at hc
                    · rename_i x y hpr
                      split at hc
                      · rename_i c hx
                        split at hc
                        · rename_i a hy
                          cases hc
                          obtain ⟨pf, h1, h2⟩ := ptrIn_ok hi hv
                          obtain ⟨h3, h4, x', y', h5, h6, h7, h8⟩ := pair_ok s hpr h1
                          rw [int64Of_ok hx h7] at h5
                          rw [int64Of_ok hy h8] at h6
                          rw [h3] at h2
                          refine (as_place_no w.heap.size (.fault pf.b c a) _ _ w (Nat.le_refl _) ⟨h2, h4, h5, h6⟩ hH).mono ?_
                          rintro e w' ⟨rfl, hb⟩
                          exact ⟨E, F, _, Go.below s hb, .bool false, rfl⟩
                        · cases hc
                      · cases hc
                    · cases hc
                  · split at hc
                    · rename_i c hi
                      cases hc
                      have e1 := isErrno_ok hi hv
                      refine (as_place_no w.heap.size (.errno c) x' _ w (Nat.le_refl _) e1 hH).mono ?_
                      rintro e w' ⟨rfl, hb⟩
                      exact ⟨E, F, _, Go.below s hb, .bool false, rfl⟩
                    · cases hc
              · cases hc
  · cases hc
noncomputable def codeB (b : Bs) : Int := match b with
  | .errno c => c
  | .fault _ c _ => c
noncomputable def hIs : Caller := fun _ args h => match args with
  | [v, tg] => match isErrno tg with
    | some d => match isNilV v with
      | true => some (.bool false, h)
      | false => match chase h 30 v with
        | some b => some (.bool (ieq (codeB b) d), h)
        | none => none
    | none => none
  | _ => none
theorem hIs_ok : HOk Tryz.prog NG 322 hIs := by
  intro args h v h' hc
  unfold hIs at hc
  split at hc
  · rename_i x tg
    split at hc
    · rename_i d hd
      split at hc
      · rename_i hn
        cases hc
        refine ⟨Nat.le_refl _, fun E F w args' s hg ha _ => ?_⟩
        have hx : x = .nilIface := by
          unfold isNilV at hn
          split at hn
          · rfl
          · cases hn
        subst hx
        cases ha with
        | cons hv hs =>
          cases hs with
          | cons ht hs =>
            cases hs
            rw [hv.iface0_inv, isErrno_ok hd ht]
            refine (is_nil _ _ w).mono ?_
            rintro e w' ⟨rfl, rfl⟩
            exact ⟨E, F, _, Go.refl s, .bool false, rfl⟩
      · split at hc
        · rename_i b hch
          cases hc
          refine ⟨Nat.le_refl _, fun E F w args' s hg ha _ => ?_⟩
          cases ha with
          | cons hv hs =>
            cases hs with
            | cons ht hs =>
              cases hs
              rename_i x' tg'
              obtain ⟨ws, r, h1, h2⟩ := chase_ok s 30 _ _ _ hch hv
              have hr : r.code = some (codeB b) := by
                cases b with
                | errno c => rw [show r = .errno c from h2]; rfl
                | fault i c a =>
                  obtain ⟨p, -, -, hr⟩ := h2
                  rw [hr]; rfl
              rw [isErrno_ok hd ht, ieq_eq]
              by_cases hcd : codeB b = d
              · rw [hcd] at hr
                rw [show (codeB b == d) = true by simpa using hcd]
                refine (is_yes w.heap.size r d hr ws x' w h1).mono ?_
                rintro e w' ⟨rfl, rfl⟩
                exact ⟨E, F, _, Go.refl s, .bool true, rfl⟩
              · rw [show (codeB b == d) = false by simpa using hcd]
                refine (is_no w.heap.size r d (by rw [hr]; exact fun h => hcd (Option.some.inj h)) ws x' w h1).mono ?_
                rintro e w' ⟨rfl, rfl⟩
                exact ⟨E, F, _, Go.refl s, .bool false, rfl⟩
        · cases hc
    · cases hc
  · cases hc
noncomputable def two (v : Value) : Option (Nat × Nat) := match v with
  | .agg xs => match intsOf .u64 xs.toList with
    | some [.ofNat a, .ofNat b] => match Nat.ble (Nat.succ a) 18446744073709551616 with
      | true => match Nat.ble (Nat.succ b) 18446744073709551616 with
        | true => some (a, b)
        | false => none
      | false => none
    | _ => none
  | _ => none
theorem two_ok {E : Env} {v v' : Value} {a b : Nat} (h : two v = some (a, b)) (hv : VR E v v') : v' = .agg #[.int .u64 (a : Int), .int .u64 (b : Int)] ∧ U64 a ∧ U64 b := by
  unfold two at h
  split at h
  · rename_i xs
    split at h
    · rename_i a' b' hi
      split at h
      · rename_i h1
        split at h
        · rename_i h2
          cases h
          obtain ⟨xs', e, hs⟩ := hv.agg_inv
          have e2 := intsOf_ok hs hi
          refine ⟨?_, Nat.le_of_ble_eq_true h1, Nat.le_of_ble_eq_true h2⟩
          rw [e]
          congr 1
          apply Array.ext'
          rw [e2]
          rfl
        · cases h
      · cases h
    · cases h
  · cases h
noncomputable def hFirst : Caller := fun _ args h => match args with
  | [v] => match two v with
    | some (a, b) => some (.int .i64 (firstI a b), h)
    | none => none
  | _ => none
theorem hFirst_ok : HOk Tryz.prog NG 57 hFirst := by
  intro args h v h' hc
  unfold hFirst at hc
  split at hc
  · split at hc
    · rename_i x a b ht
      cases hc
      refine ⟨Nat.le_refl _, fun E F w args' s hg ha _ => ?_⟩
      cases ha with
      | cons hv hs =>
        cases hs
        obtain ⟨e, ha, hb⟩ := two_ok ht hv
        rw [e]
        refine (first_any a b ha hb w s.rel.kn.2).mono ?_
        rintro e w' ⟨rfl, hbl⟩
        exact ⟨E, F, _, Go.below s hbl, .int .i64 _, rfl⟩
    · cases hc
  · cases hc
theorem sliteIB (t : ByteArray) (c : Int) (w : World) : Calls Tryz.prog 307 #[.string t, .int .u8 c] w fun e w' => e = .returned (.int .i64 (Lib.indexByte t.data.toList c.toNat.toUInt8)) ∧ w' = w := Tryz.stringslite_IndexByte t c w
noncomputable def hIB : Caller := fun _ args h => match args with
  | [.string t, .int k c] => match Nat.beq (ikN k) 4 with
    | true => some (.int .i64 (Lib.indexByte t.data.toList c.toNat.toUInt8), h)
    | false => none
  | _ => none
theorem hIB_ok : HOk Tryz.prog NG 307 hIB := by
  intro args h v h' hc
  unfold hIB at hc
  split at hc
  · rename_i t k c
    split at hc
    · rename_i hk
      cases hc
      refine ⟨Nat.le_refl _, fun E F w args' s hg ha _ => ?_⟩
      have ek : k = IntKind.u8 := ikN_inj hk
      subst ek
      cases ha with
      | cons hv hs =>
        cases hs with
        | cons hv2 hs =>
          cases hs
          rw [hv.string_inv, hv2.int_inv]
          refine (sliteIB t c w).mono ?_
          rintro e w' ⟨rfl, rfl⟩
          exact ⟨E, F, _, Go.refl s, .int .i64 _, rfl⟩
    · cases hc
  · cases hc
theorem hCopyOk : HOk Tryz.prog NG 263 hCopy := fun args h v h' hc => ⟨hCopy_mn hc, fun E F w args' s hg ha hf => hCopy_ok hc s hg ha⟩
end Go.Proofs.YtbhkfifmgbcknaaGreatDoor.Ex
namespace Go.Proofs.YtbhkfifmgbcknaaGreatDoor.Ex
open Go Go.RowKit
theorem Go.fresh {E : Env} {F : Full} {h : H} {w w' : World} (s : St E F h w) (hn : E h.n = none) {g : Nat} {ent : Ent} {c : Option Nat} (hbl : Below w.heap.size w w') (hg : w.heap.size ≤ g) (ha : ∀ E', E.le E' → At E' w' ⟨g, 0, c⟩ ent) :
    Go E F h w (putE E h.n ⟨g, 0, c⟩) (putF F h.n ent) ⟨h.t.set ent h.n, Nat.succ h.n⟩ w' := by
  have hF : ∀ i e, F i = some e → i ≠ h.n := fun i e hf hi => by
    obtain ⟨p, he, -⟩ := s.rel.at_ i e hf
    rw [hi, hn] at he; cases he
  have hle := putE_le (p := ⟨g, 0, c⟩) hn
  have hE : ∀ i, i ≠ h.n → putE E h.n ⟨g, 0, c⟩ i = E i := fun i hi => by unfold putE; rw [if_neg hi]
  have hE0 : putE E h.n ⟨g, 0, c⟩ h.n = some ⟨g, 0, c⟩ := putE_at _ _ _
  have hFi : ∀ i, i ≠ h.n → putF F h.n ent i = F i := fun i hi => by unfold putF; rw [if_neg hi]
  have hF0 : putF F h.n ent h.n = some ent := by unfold putF; rw [if_pos rfl]
  have hlt : ∀ i e p, F i = some e → E i = some p → p.b < w.heap.size := fun i e p hf he => by
    obtain ⟨q, hq, hat⟩ := s.rel.at_ i e hf
    rw [he] at hq
    cases hq
    exact hat.lt
  refine ⟨⟨hle, ⟨?_, ?_, kOnly (fun b hb => hbl.block b (s.rel.kb b hb).1) s.rel.kn, ?_⟩, ?_, ?_, hbl.size, hbl.os, hbl.tape, hbl.output, Nat.le_succ _, ?_⟩, ⟨?_, ?_, ?_, Nat.le_succ _⟩⟩
  · intro i e hf
    by_cases hi : i = h.n
    · subst hi
      rw [hF0] at hf
      cases hf
      exact ⟨_, hE0, ha _ hle⟩
    · rw [hFi i hi] at hf
      obtain ⟨p, he, hat⟩ := s.rel.at_ i e hf
      exact ⟨p, (hE i hi).trans he, hat.mono hle (hbl.block _ hat.lt)⟩
  · intro i j e e' p q hfi hfj hij hei hej
    by_cases hi : i = h.n
    · have hj : j ≠ h.n := fun hj => hij (hi.trans hj.symm)
      rw [hFi j hj] at hfj
      rw [hE j hj] at hej
      subst hi
      rw [hE0] at hei
      cases hei
      have := hlt j e' q hfj hej
      show g ≠ q.b
      omega
    · rw [hFi i hi] at hfi
      rw [hE i hi] at hei
      by_cases hj : j = h.n
      · subst hj
        rw [hE0] at hej
        cases hej
        have := hlt i e p hfi hei
        show p.b ≠ g
        omega
      · rw [hFi j hj] at hfj
        rw [hE j hj] at hej
        exact s.rel.ne i j e e' p q hfi hfj hij hei hej
  · intro b hb
    have hbs := s.rel.kb b hb
    refine ⟨Nat.lt_of_lt_of_le hbs.1 hbl.size, fun i e p hf he => ?_⟩
    by_cases hi : i = h.n
    · subst hi
      rw [hE0] at he
      cases he
      have := hbs.1
      show g ≠ b
      omega
    · rw [hFi i hi] at hf
      rw [hE i hi] at he
      exact hbs.2 i e p hf he
  · intro i e p hf he
    by_cases hi : i = h.n
    · subst hi
      rw [hE0] at he
      cases he
      exact .inl hg
    · rw [hFi i hi] at hf
      rw [hE i hi] at he
      exact .inr ⟨i, e, p, hf, he, rfl⟩
  · intro b hb _
    exact hbl.block b hb
  · intro i hi
    refine hE i ?_
    rcases hi with hi | hi
    · omega
    · have hi' : Nat.succ h.n ≤ i := hi
      omega
  · intro i e hgi
    have hg' : (h.t.set ent h.n).get i = some e := hgi
    rw [T.get_set] at hg'
    by_cases hi : i = h.n
    · rw [if_pos hi] at hg'
      rw [hi, hF0]
      exact hg'
    · rw [if_neg hi] at hg'
      rw [hFi i hi]
      exact s.sub i e hg'
  · intro i hi _
    refine hFi i ?_
    rcases hi with hi | hi
    · omega
    · have hi' : Nat.succ h.n ≤ i := hi
      omega
  · intro i hi hgi
    show (h.t.set ent h.n).get i = none
    rw [T.get_set, if_neg (by
      rcases hi with hi | hi
      · omega
      · have hi' : Nat.succ h.n ≤ i := hi
        omega)]
    exact hgi
theorem Go.own {E : Env} {F : Full} {h : H} {w w' : World} (s : St E F h w) (hn : E h.n = none) {e : TypeId} {sz n : Nat} {v : Value} {xs : List Value} (hbl : Below w.heap.size w w') (ho : w'.ownsRow w.heap.size e sz v n xs) (hne : v ≠ .slice none 0 0) (hsz : 0 < sz) (hx : ∀ E, VsR E xs xs) :
    ∃ E' F', Go E F h w E' F' ⟨h.t.set (.row e sz xs) h.n, Nat.succ h.n⟩ w' ∧ VR E' (.slice (some ⟨h.n, 0, none⟩) n 0) v := by
  obtain ⟨hl, ⟨hv, -⟩ | ⟨g, cap, cur, rfl, hb, hg, hnc, -, hcur, htk⟩⟩ := ho
  · exact absurd hv hne
  · refine ⟨_, _, Go.fresh s hn (c := some cap) hbl hb fun E' _ => ⟨cap, cur, rfl, hg, hsz, ?_, ?_, ?_⟩, ?_⟩
    · rw [hl]; exact Nat.mul_le_mul_right _ hnc
    · rw [hcur]; simp
    · rw [List.drop_zero, hl, htk]; exact hx E'
    · have := VR.grown (E := putE E h.n ⟨g, 0, some cap⟩) (o := 0) n 0 cap (putE_at _ _ _) rfl
      simpa using this
noncomputable def intsV (l : List Nat) : List Value := List.rec (motive := fun _ => List Value) [] (fun n _ ih => .int .i64 (Int.ofNat n) :: ih) l
theorem intsV_eq : ∀ (l : List Nat), intsV l = l.map fun (n : Nat) => Value.int .i64 (n : Int)
  | [] => rfl
  | n :: l => by show _ :: intsV l = _; rw [intsV_eq l]; rfl
theorem vsr_ints {E : Env} : ∀ (l : List Int), VsR E (l.map (Value.int .i64)) (l.map (Value.int .i64))
  | [] => .nil
  | n :: l => .cons (.int _ _) (vsr_ints l)
noncomputable def hList : Caller := fun _ args h => match args with
  | [v] => match two v with
    | some (a, b) => match setL a b with
      | [] => none
      | x :: l => some (.slice (some ⟨h.n, 0, none⟩) (llen (x :: l)) 0, ⟨h.t.set (.row 3 1 (intsV (x :: l))) h.n, Nat.succ h.n⟩)
    | none => none
  | _ => none
theorem hList_ok : HOk Tryz.prog NG 25 hList := by
  intro args h v h' hc
  unfold hList at hc
  split at hc
  · rename_i x
    split at hc
    · rename_i a b ht
      have hen : encN (listN a b) = intsV (setL a b) := by
        rw [intsV_eq, ← listN_val]
        simp [encN]
      have hln : (listN a b).length = (setL a b).length := by rw [← listN_val]; simp
      split at hc
      · cases hc
      · rename_i x0 l0 hset
        cases hc
        refine ⟨Nat.le_succ _, fun E F w args' s hg ha hfr => ?_⟩
        cases ha with
        | cons hv hs =>
          cases hs
          obtain ⟨e, ha, hb⟩ := two_ok ht hv
          rw [e]
          refine (list_own a b ha hb w s.rel.kn.2).mono ?_
          rintro e w' ⟨u, rfl, hown, hbl⟩
          rw [hln, hen, hset] at hown
          have hne : u ≠ .slice none 0 0 := by
            rintro rfl
            obtain ⟨-, ⟨-, h0⟩ | ⟨g, cap, cur, h0, -⟩⟩ := hown
            · simp at h0
            · cases h0
          obtain ⟨E', F', hgo, hvr⟩ := Go.own s (hfr h.n (Nat.le_refl _) (Nat.lt_succ_self _)) hbl hown hne (by decide) (fun E => by
            rw [intsV_eq]
            have := vsr_ints (E := E) ((x0 :: l0).map fun (n : Nat) => (n : Int))
            rwa [List.map_map] at this)
          refine ⟨E', F', _, hgo, ?_, rfl⟩
          rw [llen_eq]
          exact hvr
    · cases hc
  · cases hc
noncomputable def hClone : Caller := fun _ args h => match args with
  | [.slice none _ _] => some (.slice none 0 0, h)
  | [.slice (some ⟨b, o, _⟩) n _] => match cellsAt h b o n with
    | some l => match intsOf .i64 l with
      | some _ => match Nat.ble (Nat.mul n 8) 140737488355328 with
        | true => some (.slice (some ⟨h.n, 0, none⟩) n 0, ⟨h.t.set (.row 3 1 l) h.n, Nat.succ h.n⟩)
        | false => none
      | none => none
    | none => none
  | _ => none
theorem hClone_ok : HOk Tryz.prog NG 243 hClone := by
  intro args h v h' hc
  unfold hClone at hc
  split at hc
  · rename_i n c
    cases hc
    refine ⟨Nat.le_refl _, fun E F w args' s hg ha _ => ?_⟩
    cases ha with
    | cons hv hs =>
      cases hs
      rw [hv.slice0_inv]
      refine (Tryz.slices_Clone_int_nil n c w).mono ?_
      rintro e w' ⟨rfl, rfl⟩
      exact ⟨E, F, _, Go.refl s, .slice0 0 0, rfl⟩
  · rename_i b o sp n c
    split at hc
    · rename_i l hl
      split at hc
      · rename_i zs hz
        split at hc
        · rename_i h8
          cases hc
          refine ⟨Nat.le_succ _, fun E F w args' s hg ha hfr => ?_⟩
          cases ha with
          | cons hv hs =>
            cases hs
            obtain ⟨p, c', h1, -, e1, -⟩ := hv.slice_inv
            rw [e1]
            obtain ⟨l', h4, h5, h6, -⟩ := cellsAt_ok (P := Tryz.prog) s hl h1
            have e2 := intsOf_ok h4 hz
            have hzl : zs.length = n := by
              have := h4.length
              rw [e2] at this
              simp at this
              omega
            have el : l = zs.map (.int .i64) := by
              have h7 : ∀ (l : List Value) (zs : List Int), intsOf .i64 l = some zs → l = zs.map (.int .i64) := by
                intro l
                induction l with
                | nil => intro zs hh; cases (show some [] = some zs from hh); rfl
                | cons v l ih =>
                  intro zs hh
                  cases v with
                  | int k' m =>
                    have hh' : (match Nat.beq (ikN .i64) (ikN k') with
                      | true => match intsOf .i64 l with
                        | some r => some (m :: r)
                        | none => none
                      | false => none) = some zs := hh
                    cases hq : Nat.beq (ikN .i64) (ikN k') with
                    | false => rw [hq] at hh'; cases hh'
                    | true =>
                      rw [hq] at hh'
                      have ek := ikN_inj hq
                      subst ek
                      dsimp only at hh'
                      cases hr : intsOf .i64 l with
                      | none => rw [hr] at hh'; cases hh'
                      | some r =>
                        rw [hr] at hh'
                        cases hh'
                        rw [ih r hr]; rfl
                  | _ => cases hh
              exact h7 l zs hz
            refine (Tryz.slices_Clone_int p.b (p.o + o) n c' zs w (by omega) (Nat.le_of_ble_eq_true h8) (fun j hj => ?_)).mono ?_
            · refine h6 j _ ?_
              rw [e2]
              simp [hj]
            · rintro e w' ⟨u, rfl, hown, hne, hbl⟩
              have htk : (zs.take n).map (Value.int .i64) = l := by rw [List.take_of_length_le (by omega), el]
              rw [htk] at hown
              obtain ⟨E', F', hgo, hvr⟩ := Go.own s (hfr h.n (Nat.le_refl _) (Nat.lt_succ_self _)) hbl hown hne (by decide) (fun E => by rw [el]; exact vsr_ints zs)
              exact ⟨E', F', _, hgo, hvr, rfl⟩
        · cases hc
      · cases hc
    · cases hc
  · cases hc
noncomputable def strsOf (l : List Value) : Option (List ByteArray) :=
  List.rec (motive := fun _ => Option (List ByteArray)) (some []) (fun v _ ih => match v with
    | .string s => match ih with
      | some r => some (s :: r)
      | none => none
    | _ => none) l
theorem strsOf_ok : ∀ (l : List Value) (zs : List ByteArray), strsOf l = some zs → l = zs.map Value.string
  | [], zs, hh => by cases (show some [] = some zs from hh); rfl
  | v :: l, zs, hh => by
    cases v with
    | string s =>
      have hh' : (match strsOf l with
        | some r => some (s :: r)
        | none => none) = some zs := hh
      cases hr : strsOf l with
      | none => rw [hr] at hh'; cases hh'
      | some r =>
        rw [hr] at hh'
        cases hh'
        rw [strsOf_ok l r hr]; rfl
    | _ => cases hh
theorem vsr_strs {E : Env} : ∀ (l : List ByteArray), VsR E (l.map Value.string) (l.map Value.string)
  | [] => .nil
  | n :: l => .cons (.string _) (vsr_strs l)
theorem VsR.strs {E : Env} : ∀ {l : List ByteArray} {l' : List Value}, VsR E (l.map Value.string) l' → l' = l.map Value.string
  | [], _, h => by cases h; rfl
  | s :: l, _, h => by
    cases h with
    | cons hv hs => rw [hv.string_inv, VsR.strs hs]; rfl
noncomputable def hCloneS : Caller := fun _ args h => match args with
  | [.slice none _ _] => some (.slice none 0 0, h)
  | [.slice (some ⟨b, o, _⟩) n _] => match cellsAt h b o n with
    | some l => match strsOf l with
      | some _ => match Nat.ble (Nat.mul n 16) 140737488355328 with
        | true => some (.slice (some ⟨h.n, 0, none⟩) n 0, ⟨h.t.set (.row 9 1 l) h.n, Nat.succ h.n⟩)
        | false => none
      | none => none
    | none => none
  | _ => none
theorem hCloneS_ok : HOk Tryz.prog NG 264 hCloneS := by
  intro args h v h' hc
  unfold hCloneS at hc
  split at hc
  · rename_i n c
    cases hc
    refine ⟨Nat.le_refl _, fun E F w args' s hg ha _ => ?_⟩
    cases ha with
    | cons hv hs =>
      cases hs
      rw [hv.slice0_inv]
      refine (Tryz.slices_Clone_string_nil n c w).mono ?_
      rintro e w' ⟨rfl, rfl⟩
      exact ⟨E, F, _, Go.refl s, .slice0 0 0, rfl⟩
  · rename_i b o sp n c
    split at hc
    · rename_i l hl
      split at hc
      · rename_i zs hz
        split at hc
        · rename_i h8
          cases hc
          refine ⟨Nat.le_succ _, fun E F w args' s hg ha hfr => ?_⟩
          cases ha with
          | cons hv hs =>
            cases hs
            obtain ⟨p, c', h1, -, e1, -⟩ := hv.slice_inv
            rw [e1]
            obtain ⟨l', h4, h5, h6, -⟩ := cellsAt_ok (P := Tryz.prog) s hl h1
            have el := strsOf_ok l zs hz
            rw [el] at h4
            have e2 := h4.strs
            have hzl : zs.length = n := by
              rw [el] at h5
              simpa using h5
            refine (Tryz.slices_Clone_string p.b (p.o + o) n c' zs w (by omega) (Nat.le_of_ble_eq_true h8) (fun j hj => ?_)).mono ?_
            · refine h6 j _ ?_
              rw [e2]
              simp [hj]
            · rintro e w' ⟨u, rfl, hown, hne, hbl⟩
              have htk : (zs.take n).map Value.string = l := by rw [List.take_of_length_le (by omega), el]
              rw [htk] at hown
              obtain ⟨E', F', hgo, hvr⟩ := Go.own s (hfr h.n (Nat.le_refl _) (Nat.lt_succ_self _)) hbl hown hne (by decide) (fun E => by rw [el]; exact vsr_strs zs)
              exact ⟨E', F', _, hgo, hvr, rfl⟩
        · cases hc
      · cases hc
    · cases hc
  · cases hc
end Go.Proofs.YtbhkfifmgbcknaaGreatDoor.Ex
namespace Go.Proofs
open Go.Shelf
def Tryz.keys353_ren : Go.Shelf.Ren := ⟨fun | 7 => 353 | 10 => 381 | n => n, fun | 23 => 395 | 26 => 9 | 3 => 3 | 28 => 398 | 0 => 0 | 27 => 397 | 33 => 141 | 4 => 4 | n => n, fun | n => n⟩
theorem Tryz.keys353 : Go.Proofs.SlLaysZ.n7 Tryz.prog Tryz.keys353_ren := {
  mixed := by kernel_rfl
  f7 := ⟨Tryz.f353.name, by decide, Tryz.func353.trans (congrArg some (by kernel_rfl))⟩
  f10 := ⟨Tryz.f381.name, by decide, Tryz.func381.trans (congrArg some (by kernel_rfl))⟩
  t0 := Tryz.underlying0
  a0 := Tryz.isAgg0
  z0 := Tryz.sizeOf0
  v0 := Tryz.zeroValue0
  t4 := Tryz.underlying4
  a4 := Tryz.isAgg4
  z4 := Tryz.sizeOf4
  v4 := Tryz.zeroValue4
  t23 := Tryz.underlying395
  a23 := Tryz.isAgg395
  z23 := Tryz.sizeOf395
  v23 := Tryz.zeroValue395
  t26 := Tryz.underlying9
  a26 := Tryz.isAgg9
  z26 := Tryz.sizeOf9
  v26 := Tryz.zeroValue9
  t27 := Tryz.underlying397
  a27 := Tryz.isAgg397
  z27 := Tryz.sizeOf397
  v27 := Tryz.zeroValue397
  t28 := Tryz.underlying398
  a28 := Tryz.isAgg398
  z28 := Tryz.sizeOf398
  v28 := Tryz.zeroValue398
  t33 := Tryz.underlying141
  a33 := Tryz.isAgg141
  z33 := Tryz.sizeOf141
  v33 := Tryz.zeroValue141 }
def Tryz.sorted352_ren : Go.Shelf.Ren := ⟨fun | 6 => 352 | 8 => 380 | 9 => 163 | 11 => 400 | 13 => 55 | 12 => 218 | 23 => 77 | 24 => 78 | 14 => 266 | 15 => 267 | 16 => 268 | 17 => 269 | 18 => 270 | 19 => 271 | 20 => 272 | 21 => 273 | 22 => 274 | 25 => 325 | 26 => 97 | 27 => 98 | 28 => 326 | 29 => 327 | 30 => 221 | 31 => 359 | n => n, fun | 26 => 9 | 28 => 398 | 24 => 36 | 0 => 0 | 3 => 3 | 37 => 92 | 48 => 119 | 50 => 41 | 4 => 4 | 40 => 111 | 39 => 110 | 45 => 116 | 5 => 5 | 9 => 9 | 51 => 142 | 55 => 146 | 57 => 194 | 58 => 195 | 33 => 141 | n => n, fun | n => n⟩
theorem Tryz.sorted352 : Go.Proofs.SlLaysZ.n6 Tryz.prog Tryz.sorted352_ren := {
  mixed := by kernel_rfl
  f6 := ⟨Tryz.f352.name, by decide, Tryz.func352.trans (congrArg some (by kernel_rfl))⟩
  f8 := ⟨Tryz.f380.name, by decide, Tryz.func380.trans (congrArg some (by kernel_rfl))⟩
  f11 := ⟨Tryz.f400.name, by decide, Tryz.func400.trans (congrArg some (by kernel_rfl))⟩
  t0 := Tryz.underlying0
  a0 := Tryz.isAgg0
  z0 := Tryz.sizeOf0
  v0 := Tryz.zeroValue0
  t24 := Tryz.underlying36
  a24 := Tryz.isAgg36
  z24 := Tryz.sizeOf36
  v24 := Tryz.zeroValue36
  t26 := Tryz.underlying9
  a26 := Tryz.isAgg9
  z26 := Tryz.sizeOf9
  v26 := Tryz.zeroValue9
  t28 := Tryz.underlying398
  a28 := Tryz.isAgg398
  z28 := Tryz.sizeOf398
  v28 := Tryz.zeroValue398
  i26 := by kernel_rfl }
end Go.Proofs
