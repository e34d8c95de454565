/-
  A part of the proof of the statement NfaAccepts.
-/
import Derived.Test.YtbhkfifmgbcknaaGreatDoorG14
import Derived.Lib.UnsafeStr
set_option linter.unusedSimpArgs false
set_option linter.unusedVariables false
namespace Go.Proofs.YtbhkfifmgbcknaaGreatDoor.Ex
open Go Go.RowKit
theorem Go.drop {E : Env} {F : Full} {h : H} {w w' : World} (s : St E F h w) {i : Nat} {e0 : Ent} {p : Pl} (hg : h.t.get i = some e0) (he : E i = some p)
    (hb : ∀ k, k ≠ p.b → w'.heap[k]? = w.heap[k]?) (hz : w'.heap.size = w.heap.size) (hos : w'.os = w.os) (ht : w'.tape = w.tape) (ho : w'.output = w.output) :
    Go E F h w E (dropF F i) ⟨h.t.del i, h.n⟩ w' := by
  have hf0 := s.sub i e0 hg
  have hFi : ∀ j, j ≠ i → dropF F i j = F j := fun j hj => by unfold dropF; rw [if_neg hj]
  have hF0 : dropF F i i = none := by unfold dropF; rw [if_pos rfl]
  have hback : ∀ j e, dropF F i j = some e → j ≠ i ∧ F j = some e := fun j e hf => by
    by_cases hj : j = i
    · rw [hj, hF0] at hf; cases hf
    · exact ⟨hj, by rw [← hFi j hj]; exact hf⟩
  refine ⟨⟨Env.le.refl E, ⟨?_, ?_, kOnly (fun b hbk => hb b (fun h => (s.rel.kb b hbk).2 i e0 p hf0 he h.symm)) s.rel.kn, fun b hbk => ⟨by rw [hz]; exact (s.rel.kb b hbk).1, fun j e q hf hq => (s.rel.kb b hbk).2 j e q (hback j e hf).2 hq⟩⟩, ?_, ?_, by omega, hos, ht, ho, Nat.le_refl _, fun _ _ => rfl⟩, ⟨?_, ?_, ?_, Nat.le_refl _⟩⟩
  · intro j e hf
    obtain ⟨hj, hf'⟩ := hback j e hf
    obtain ⟨q, hq, hat⟩ := s.rel.at_ j e hf'
    exact ⟨q, hq, hat.mono (Env.le.refl E) (hb _ (s.rel.ne j i e e0 q p hf' hf0 hj hq he))⟩
  · intro j k e e' q r hfj hfk hjk hej hek
    exact s.rel.ne j k e e' q r (hback j e hfj).2 (hback k e' hfk).2 hjk hej hek
  · intro j e q hf hq
    exact .inr ⟨j, e, q, (hback j e hf).2, hq, rfl⟩
  · intro b _ hne
    exact hb b (fun hbp => hne i e0 p hf0 he hbp.symm)
  · intro j e hgj
    have hgj' : (h.t.del i).get j = some e := hgj
    rw [T.get_del] at hgj'
    by_cases hj : j = i
    · rw [if_pos hj] at hgj'; cases hgj'
    · rw [if_neg hj] at hgj'
      rw [hFi j hj]
      exact s.sub j e hgj'
  · intro j _ hgj
    exact hFi j (fun hji => by rw [hji, hg] at hgj; cases hgj)
  · intro j _ hgj
    show (h.t.del i).get j = none
    rw [T.get_del]
    split
    · rfl
    · exact hgj
noncomputable def xUSD (x : Opd) : X := fun tm h => match ev tm x with
  | some (.slice none _ _) => .val (.pointer none) h
  | some (.slice (some ⟨i, o, _⟩) n c) => match h.t.get i with
    | some (.cells _ _) => match Nat.ble 1 c with
      | true => .val (.pointer (some ⟨i, o, none⟩)) h
      | false => .fail
    | some (.row _ s cs) => match Nat.beq s 1 with
      | true => match Nat.beq o 0 with
        | true => match Nat.beq c 0 with
          | true => match Nat.ble 1 n with
            | true => match Nat.ble n (llen cs) with
              | true => .val (.pointer (some ⟨i, 0, none⟩)) h
              | false => .fail
            | false => .fail
          | false => .fail
        | false => .fail
      | false => .fail
    | _ => .fail
  | _ => .fail
theorem does_usd {P : Program} {ng nt : Nat} {o : Oper} {x : Operand} {ts : Array TypeId} (ho : o.op = .call { callee := .builtin .unsafeSliceData, args := #[x], argTypes := ts }) : Does P ng nt o (xUSD (cOpd ng x)) := by
  intro tm h E F w a df s hg htm
  unfold xUSD
  cases hx : ev tm (cOpd ng x) with
  | none => exact trivial
  | some vx =>
    have hvx := ev_ok hg htm hx
    cases vx with
    | slice p n c =>
      cases p with
      | none =>
        refine Told.same s .ptr0 (run_bi ho a w ?_)
        simp [hvx.slice0_inv, invoke, builtin, Lib.run_unsafeSliceData_nil]
      | some p =>
        obtain ⟨i, off, sp⟩ := p
        dsimp only
        cases hb : h.t.get i with
        | none => exact trivial
        | some e =>
          cases e with
          | cells t cs =>
            dsimp only
            cases hc : Nat.ble 1 c with
            | false => exact trivial
            | true =>
              have hc' := Nat.le_of_ble_eq_true hc
              generalize hu : a.eval x = u at hvx
              cases hvx with
              | slice _ _ he hpc =>
                refine Told.same s (VR.ptr he) (run_bi ho a w ?_)
                simp [hu, invoke, builtin, Lib.run_unsafeSliceData_row _ _ _ _ _ _ (by omega : c ≠ 0)]
              | grown _ _ _ he hpc =>
                obtain ⟨-, e2, -⟩ := s.at_ hb he
                rw [e2] at hpc; cases hpc
          | row t sz cs =>
            dsimp only
            cases h1 : Nat.beq sz 1 with
            | false => exact trivial
            | true =>
              dsimp only
              cases h2 : Nat.beq off 0 with
              | false => exact trivial
              | true =>
                dsimp only
                cases h3 : Nat.beq c 0 with
                | false => exact trivial
                | true =>
                  dsimp only
                  cases h4 : Nat.ble 1 n with
                  | false => exact trivial
                  | true =>
                    dsimp only
                    cases h5 : Nat.ble n (llen cs) with
                    | false => exact trivial
                    | true =>
                      have h1' := Nat.eq_of_beq_eq_true h1
                      have h2' := Nat.eq_of_beq_eq_true h2
                      have h3' := Nat.eq_of_beq_eq_true h3
                      have h4' := Nat.le_of_ble_eq_true h4
                      have h5' := Nat.le_of_ble_eq_true h5
                      rw [llen_eq] at h5'
                      subst h1'; subst h2'; subst h3'
                      generalize hu : a.eval x = u at hvx
                      cases hvx with
                      | slice _ _ he hpc =>
                        obtain ⟨cp, arr, e1, -⟩ := s.at_ hb he
                        rw [e1] at hpc; cases hpc
                      | grown _ _ c1 he hpc =>
                        obtain ⟨cp, arr, e1, -, -, e4, -⟩ := s.at_ hb he
                        have hcc : cp = c1 := by rw [e1] at hpc; exact Option.some.inj hpc
                        have hc1 : c1 ≠ 0 := by omega
                        refine Told.same s (VR.ptr he) (run_bi ho a w ?_)
                        have hr := fun ad => Lib.run_unsafeSliceData_row (P := P) w ts o.type ad n c1 hc1
                        simp [hu, invoke, builtin, hr]
          | _ => exact trivial
    | _ => exact trivial
noncomputable def byteOf (v : Value) : Option UInt8 := match v with
  | .int k (.ofNat b) => match Nat.beq (ikN k) 4 with
    | true => match Nat.ble (Nat.succ b) 256 with
      | true => some (UInt8.ofNat b)
      | false => none
    | false => none
  | _ => none
theorem byteOf_ok {v : Value} {x : UInt8} (h : byteOf v = some x) : v = .int .u8 x.toNat := by
  unfold byteOf at h
  split at h
  · rename_i k b
    split at h
    · rename_i hk
      split at h
      · rename_i hb
        cases h
        have ek : k = .u8 := ikN_inj hk
        have hb' : b < 256 := Nat.le_of_ble_eq_true hb
        rw [ek]
        simp [Nat.mod_eq_of_lt hb']
      · cases h
    · cases h
  · cases h
noncomputable def bytesOf (l : List Value) : Option (List UInt8) :=
  List.rec (motive := fun _ => Option (List UInt8)) (some []) (fun v _ ih => match byteOf v with
    | some x => match ih with
      | some r => some (x :: r)
      | none => none
    | none => none) l
theorem bytesOf_ok : ∀ {l : List Value} {r : List UInt8}, bytesOf l = some r → l = Lib.byteCells r
  | [], r, h => by
    have h' : some [] = some r := h
    cases h'
    rfl
  | v :: l, r, h => by
    have h' : (match byteOf v with
      | some x => match bytesOf l with
        | some r => some (x :: r)
        | none => none
      | none => none) = some r := h
    cases hx : byteOf v with
    | none => rw [hx] at h'; cases h'
    | some x =>
      rw [hx] at h'
      dsimp only at h'
      cases hr : bytesOf l with
      | none => rw [hr] at h'; cases h'
      | some q =>
        rw [hr] at h'
        cases h'
        rw [bytesOf_ok hr, byteOf_ok hx]
        rfl
theorem VsR.bytes {E : Env} {l : List UInt8} {l' : List Value} (h : VsR E (Lib.byteCells l) l') : l' = Lib.byteCells l := by
  have hh : ∀ (l : List UInt8) (l' : List Value), VsR E (l.map fun b => Value.int .u8 b.toNat) l' → l' = l.map fun b => Value.int .u8 b.toNat := by
    intro l
    induction l with
    | nil => intro l' h; cases h; rfl
    | cons x l ih =>
      intro l' h
      cases h with
      | cons hv hs => rw [hv.int_inv, ih _ hs]; rfl
  exact hh l l' h
theorem run_text {P : Program} (w : World) (pt it ty e : TypeId) (hp : P.underlying pt = some (.pointer e)) (hc : P.cellsOf e = 1) (g o cells : Nat) (hsh : w.shape? g = some (e, cells)) (l : List UInt8) (h0 : l ≠ []) (hn : o + l.length ≤ cells) (h63 : l.length ≤ 9223372036854775807)
    (hcell : ∀ j x, l[j]? = some x → w.cell? ((⟨g, o, none⟩ : Addr).add j) = some (.int .u8 x.toNat)) :
    (Builtin.unsafeString_ #[pt, it] ty #[.pointer (some ⟨g, o, none⟩), .int .i64 l.length]).run P w = .ok (.string ⟨l.toArray⟩) (w.freeze ⟨g, o, none⟩ l.length) := by
  have hl : l.length ≠ 0 := by simpa using h0
  have hlb := Lib.run_loadBytes (P := P) w l ⟨g, o, none⟩ .empty hcell
  have hlies : liesAt P P.depth e (cells / P.cellsOf e) o e l.length = true := by
    have hd : P.depth = (2 * (P.types.size + Made.depth) + 1) + 1 := rfl
    rw [hd]
    simp only [liesAt, Bool.or_eq_true]
    left
    rw [hd]
    simp [rowAt, hc, hn, sameLayout, Nat.mod_one]
  have h63' : ¬ (9223372036854775807 : Int) < (l.length : Int) := by omega
  have hdef : Builtin.unsafeString_ #[pt, it] ty #[.pointer (some ⟨g, o, none⟩), .int .i64 l.length] =
      (do
        let n ← asInt (.int .i64 l.length)
        if n < 0 then runtimePanic (.error "unsafe.String: len out of range")
        if n > IntKind.i64.max then unsupported (.unsafePointer "String: a length above the largest int")
        if n = 0 then pure (.string .empty)
        else if ← variablesAt ⟨g, o, none⟩ (← elemOf pt) n.toNat then do
          let s ← loadBytes ⟨g, o, none⟩ .empty n.toNat
          freeze ⟨g, o, none⟩ n.toNat
          pure (.string s)
        else unsupported (.unsafePointer "String: not so many bytes at ptr")) := rfl
  rw [hdef]
  have hmax : IntKind.i64.max = 9223372036854775807 := rfl
  have hneg : ¬ (l.length : Int) < 0 := by omega
  simp [asInt, asIntOf, hmax, h63', hneg, hl, variablesAt, hsh, elemOf, run_underlying hp, hlies, hlb]
noncomputable def Ent.ty : Ent → Option TypeId
  | .cells e _ => some e
  | .row e _ _ => some e
  | .map _ => none
noncomputable def xUStr (e : TypeId) (x y : Opd) : X := fun tm h => match ev tm y with
  | some (.int k (.ofNat m)) => match Nat.beq (ikN k) (ikN .i64) with
    | true => match ev tm x with
      | some (.pointer p) => match Nat.beq m 0 with
        | true => .val (.string .empty) h
        | false => match p with
          | some ⟨i, o, _⟩ => match h.t.get i with
            | some en => match en.ty with
              | some e' => match Nat.beq e' e with
                | true => match cellsAt h i o m with
                  | some vs => match bytesOf vs with
                    | some l => match Nat.ble m 9223372036854775807 with
                      | true => .val (.string ⟨l.toArray⟩) ⟨h.t.del i, h.n⟩
                      | false => .fail
                    | none => .fail
                  | none => .fail
                | false => .fail
              | none => .fail
            | none => .fail
          | none => .fail
      | _ => .fail
    | false => .fail
  | _ => .fail
theorem freeze_other (w : World) (g o n k : Nat) (h : k ≠ g) : (w.freeze ⟨g, o, none⟩ n).heap[k]? = w.heap[k]? := by
  unfold World.freeze
  split
  · rfl
  · simp only [Array.getElem?_modify]
    rw [if_neg (fun hh => h hh.symm)]
theorem freeze_same (w : World) (a : Addr) (n : Nat) : (w.freeze a n).heap.size = w.heap.size ∧ (w.freeze a n).os = w.os ∧ (w.freeze a n).tape = w.tape ∧ (w.freeze a n).output = w.output := by
  unfold World.freeze
  split
  · exact ⟨rfl, rfl, rfl, rfl⟩
  · exact ⟨by simp, rfl, rfl, rfl⟩
theorem At.shape {E : Env} {w : World} {p : Pl} {en : Ent} {e : TypeId} (h : At E w p en) (he : en.ty = some e) : ∃ cells, w.shape? p.b = some (e, cells) ∧ ∀ o cs, en.cs = some cs → o ≤ cs.length → p.o + o ≤ cells := by
  cases en with
  | cells t cs =>
    obtain ⟨e1, -, cs', h3, h4⟩ := h
    cases he
    refine ⟨cs'.length, by simp [World.shape?, h3], fun o cs2 hc ho => ?_⟩
    cases hc
    have := h4.length
    omega
  | row t s cs =>
    obtain ⟨c, arr, -, h3, -, h5, h6, -⟩ := h
    cases he
    refine ⟨arr.size, by simp [World.shape?, h3], fun o cs2 hc ho => ?_⟩
    cases hc
    omega
  | map es => cases he
theorem does_ustr {P : Program} {ng nt : Nat} {o : Oper} {x y : Operand} {pt it e : TypeId} (ho : o.op = .call { callee := .builtin .unsafeString, args := #[x, y], argTypes := #[pt, it] }) (hp : P.underlying pt = some (.pointer e)) (hc : P.cellsOf e = 1) : Does P ng nt o (xUStr e (cOpd ng x) (cOpd ng y)) := by
  intro tm h E F w a df s hg htm
  unfold xUStr
  split
  · rename_i k m hy
    have hvy := ev_ok hg htm hy
    split
    · rename_i hk
      have ek := ikN_inj hk
      subst ek
      split
      · rename_i p hx
        have hvx := ev_ok hg htm hx
        split
        · rename_i hm
          have hm' := Nat.eq_of_beq_eq_true hm
          subst hm'
          have hvp : ∃ p', a.eval x = .pointer p' := by
            cases p with
            | none => exact ⟨_, hvx.ptr0_inv⟩
            | some p =>
              obtain ⟨i, oo, sp⟩ := p
              obtain ⟨q, -, -, h3⟩ := hvx.ptr_inv
              exact ⟨_, h3⟩
          obtain ⟨p', hp'⟩ := hvp
          refine Told.same s (.string _) (run_bi ho a w ?_)
          have hz := Lib.run_unsafeString_none (P := P) w pt it o.type p'
          have hvy' : a.eval y = .int .i64 0 := hvy.int_inv
          simp [hp', hvy', invoke, builtin, hz]
        · rename_i hm
          split
          · rename_i i off sp
            obtain ⟨q, h1, -, h3⟩ := hvx.ptr_inv
            split
            · rename_i en hb
              split
              · rename_i e' het
                split
                · rename_i hee
                  have hee' := Nat.eq_of_beq_eq_true hee
                  subst hee'
                  split
                  · rename_i vs hvs
                    split
                    · rename_i l hl
                      split
                      · rename_i h63
                        have hvs' := bytesOf_ok hl
                        subst hvs'
                        obtain ⟨l', h4, h5, h6, -⟩ := cellsAt_ok (P := P) s hvs h1
                        have e1 := h4.bytes
                        subst e1
                        have hlm : l.length = m := by simpa [Lib.byteCells] using h5
                        subst hlm
                        have hat := s.at_ hb h1
                        obtain ⟨cells, hsh, hle⟩ := hat.shape het
                        have hcs : ∃ cs, en.cs = some cs ∧ off + l.length ≤ cs.length := by
                          unfold cellsAt at hvs
                          rw [hb] at hvs
                          dsimp only at hvs
                          cases hcs : en.cs with
                          | none => rw [hcs] at hvs; cases hvs
                          | some cs =>
                            refine ⟨cs, rfl, ?_⟩
                            have hh := cellsAt_eq (h := h) (b := i) (o := off) (n := l.length) hb hcs (by unfold cellsAt; rw [hb]; dsimp only; rw [hcs]; rw [hcs] at hvs; exact hvs)
                            have := congrArg List.length hh
                            simp [Lib.byteCells] at this
                            have hne : l.length ≠ 0 := fun h0 => by rw [h0, Nat.beq_refl] at hm; cases hm
                            omega
                        obtain ⟨cs, hcs, hoc⟩ := hcs
                        have hne : l ≠ [] := fun h0 => by rw [h0] at hm; cases hm
                        have hr := run_text (P := P) w pt it o.type e' hp hc q.b (q.o + off) cells hsh l hne (by have := hle (off + l.length) cs hcs hoc; omega) (Nat.le_of_ble_eq_true h63) (fun j x hj => by
                          rw [add_at]
                          refine h6 j _ ?_
                          simp [Lib.byteCells, hj])
                        obtain ⟨f1, f2, f3, f4⟩ := freeze_same w ⟨q.b, q.o + off, none⟩ l.length
                        refine fun _ => ⟨E, _, _, _, Go.drop s hb h1 (fun k hk => freeze_other w _ _ _ k hk) f1 f2 f3 f4, .inl ⟨_, rfl, .string _⟩, run_bi ho a w ?_⟩
                        have hvy' : a.eval y = .int .i64 (l.length : Int) := hvy.int_inv
                        simp [h3, hvy', invoke, builtin, hr]
                      · exact trivial
                    · exact trivial
                  · exact trivial
                · exact trivial
              · exact trivial
            · exact trivial
          · exact trivial
      · exact trivial
    · exact trivial
  · exact trivial
end Go.Proofs.YtbhkfifmgbcknaaGreatDoor.Ex
namespace Go.Proofs.YtbhkfifmgbcknaaGreatDoor.Ex
open Go Go.RowKit
noncomputable def sameFs (P : Program) (xs ys : List Value) (fs : List Field) : Bool :=
  List.rec (motive := fun _ => Bool) true (fun f _ ih => match P.underlying f.type with
    | some (.int _) => match lget xs f.offset with
      | some (.int k a) => match lget ys f.offset with
        | some (.int k' b) => match Nat.beq (ikN k) (ikN k') with
          | true => match ieq a b with
            | true => ih
            | false => false
          | false => false
        | _ => false
      | _ => false
    | _ => false) fs
theorem sameFs_ok {P : Program} {E : Env} {xs ys : List Value} {xs' ys' : Array Value} (hx : VsR E xs xs'.toList) (hy : VsR E ys ys'.toList) (d : Nat) (w : World) : ∀ (fs : List Field), sameFs P xs ys fs = true → (Op.eqFields (d + 1) xs' ys' fs).run P w = .ok true w
  | [], _ => rfl
  | f :: fs, h => by
    have h' : (match P.underlying f.type with
      | some (.int _) => match lget xs f.offset with
        | some (.int k a) => match lget ys f.offset with
          | some (.int k' b) => match Nat.beq (ikN k) (ikN k') with
            | true => match ieq a b with
              | true => sameFs P xs ys fs
              | false => false
            | false => false
          | _ => false
        | _ => false
      | _ => false) = true := h
    cases hu : P.underlying f.type with
    | none => rw [hu] at h'; cases h'
    | some u =>
      rw [hu] at h'
      cases u with
      | int q =>
        dsimp only at h'
        cases hlx : lget xs f.offset with
        | none => rw [hlx] at h'; cases h'
        | some vx =>
          rw [hlx] at h'
          cases vx with
          | int k a =>
            dsimp only at h'
            cases hly : lget ys f.offset with
            | none => rw [hly] at h'; cases h'
            | some vy =>
              rw [hly] at h'
              cases vy with
              | int k' b =>
                dsimp only at h'
                cases hk : Nat.beq (ikN k) (ikN k') with
                | false => rw [hk] at h'; cases h'
                | true =>
                  rw [hk] at h'
                  dsimp only at h'
                  cases he : ieq a b with
                  | false => rw [he] at h'; cases h'
                  | true =>
                    rw [he] at h'
                    rw [lget_eq] at hlx hly
                    obtain ⟨u1, h1, h2⟩ := hx.at hlx
                    obtain ⟨u2, h3, h4⟩ := hy.at hly
                    rw [h2.int_inv] at h1
                    rw [h4.int_inv] at h3
                    have p1 := run_part1 hu (xs := xs') (o := f.offset) (v := .int k a) (by simpa using h1) w
                    have p2 := run_part1 hu (xs := ys') (o := f.offset) (v := .int k' b) (by simpa using h3) w
                    have ek := ikN_inj hk
                    subst ek
                    have q1 := run_equalIn_int w d f.type k q a b hu
                    rw [ieq_eq] at he
                    rw [he] at q1
                    have ih := sameFs_ok hx hy d w fs h'
                    unfold Op.eqFields
                    split
                    · simp [p1, p2, q1, ih]
                    · exact ih
              | _ => cases h'
          | _ => cases h'
      | _ => cases h'
noncomputable def xEqS (P : Program) (fs : List Field) (op : BinOp) (x y : Opd) : X := fun tm h => match ev tm x with
  | some (.agg xs) => match ev tm y with
    | some (.agg ys) => match sameFs P xs.toList ys.toList fs with
      | true => eqO op true h
      | false => .fail
    | _ => .fail
  | _ => .fail
theorem does_eqS {P : Program} {ng nt : Nat} {o : Oper} {op : BinOp} {t t' : TypeId} {x y : Operand} {fs : Array Field} (ho : o.op = .binOp op t x y t') (ht : P.underlying t = some (.struct fs)) (hst : P.stoodInHeld t = false) (hm : P.eqGuardType P.depth t = false) :
    Does P ng nt o (xEqS P fs.toList op (cOpd ng x) (cOpd ng y)) := by
  intro tm h E F w a df s hg htm
  unfold xEqS
  cases hx : ev tm (cOpd ng x) with
  | none => exact trivial
  | some v =>
    have hv := ev_ok hg htm hx
    cases v with
    | agg xs =>
      cases hy : ev tm (cOpd ng y) with
      | none => exact trivial
      | some u =>
        have hu := ev_ok hg htm hy
        cases u with
        | agg ys =>
          dsimp only
          obtain ⟨xs', ex, hxs⟩ := hv.agg_inv
          obtain ⟨ys', ey, hys⟩ := hu.agg_inv
          cases hs : sameFs P xs.toList ys.toList fs.toList with
          | false => exact trivial
          | true =>
            dsimp only
            have hf := sameFs_ok hxs hys 9998 w fs.toList hs
            have hfs : P.fieldsOf t = fs := by unfold Program.fieldsOf; rw [ht]
            have hr := run_equalIn_struct (P := P) w 9999 t xs' ys' (by rw [hfs]; exact ht) hst
            rw [hfs, hf] at hr
            have hgd := fun op => run_eqGuard_agg (P := P) w op t x y xs' ys' hm
            have h3 := run_eql_struct (P := P) w t xs' ys'
            have h4 := run_neq_struct (P := P) w t xs' ys'
            rw [show (10000 : Nat) = 9999 + 1 from rfl, hr] at h3 h4
            cases op <;> first
              | exact trivial
              | (refine Told.same s (.bool _) ?_
                 simp only [execOp, ho, ex, ey]
                 simp [hgd, h3, Result.andThen]; done)
              | (refine Told.same s (.bool _) ?_
                 rw [bnot_eq]
                 simp only [execOp, ho, ex, ey]
                 simp [hgd, h4, Result.andThen])
        | _ => exact trivial
    | _ => exact trivial
noncomputable def cBin2 (P : Program) (ng : Nat) (op : BinOp) (t : TypeId) (x y : Operand) : X := match P.underlying t with
  | some (.array len e) => match P.underlying e with
    | some (.int k) => match P.info? e with
      | some i => match Nat.beq i.size 1 with
        | true => match P.eqGuardType P.depth t with
          | false => xEqA k len op (cOpd ng x) (cOpd ng y)
          | true => xFail
        | false => xFail
      | none => xFail
    | _ => xFail
  | some (.struct fs) => match P.stoodInHeld t with
    | false => match P.eqGuardType P.depth t with
      | false => xEqS P fs.toList op (cOpd ng x) (cOpd ng y)
      | true => xFail
    | true => xFail
  | _ => xFail
theorem does_cBin2 {P : Program} {ng nt : Nat} {o : Oper} {op : BinOp} {t t' : TypeId} {x y : Operand} (ho : o.op = .binOp op t x y t') : Does P ng nt o (cBin2 P ng op t x y) := by
  unfold cBin2
  split
  · rename_i ht
    split
    · rename_i he
      split
      · rename_i hi
        split
        · rename_i hs
          split
          · rename_i hm; exact does_eqA ho ht he hi (Nat.eq_of_beq_eq_true hs) hm
          · exact does_fail _ _ _ _
        · exact does_fail _ _ _ _
      · exact does_fail _ _ _ _
    · exact does_fail _ _ _ _
  · rename_i ht
    split
    · rename_i hst
      split
      · rename_i hm; exact does_eqS ho ht hst hm
      · exact does_fail _ _ _ _
    · exact does_fail _ _ _ _
  · exact does_fail _ _ _ _
noncomputable def cCall2 (P : Program) (ng : Nat) (c : Call) : X := match c.callee with
  | .builtin .min => match c.args.toList with
    | [x, y] => xMin (cOpd ng x) (cOpd ng y)
    | _ => xFail
  | .builtin .max => match c.args.toList with
    | [x, y] => xMax (cOpd ng x) (cOpd ng y)
    | _ => xFail
  | .builtin .unsafeSliceData => match c.args.toList with
    | [x] => xUSD (cOpd ng x)
    | _ => xFail
  | .builtin .unsafeString => match c.args.toList with
    | [x, y] => match c.argTypes.toList with
      | [pt, _] => match P.underlying pt with
        | some (.pointer e) => match Nat.beq (P.cellsOf e) 1 with
          | true => xUStr e (cOpd ng x) (cOpd ng y)
          | false => xFail
        | _ => xFail
      | _ => xFail
    | _ => xFail
  | .builtin .copy => match c.args.toList with
    | [x, y] => match c.argTypes.toList with
      | [t, _] => match P.underlying t with
        | some (.slice e) => match P.info? e with
          | some i => xCopy i.size (cOpd ng x) (cOpd ng y)
          | none => xFail
        | _ => xFail
      | _ => xFail
    | _ => xFail
  | _ => xFail
theorem does_cCall2 {P : Program} {ng nt : Nat} {o : Oper} {c : Call} (ho : o.op = .call c) : Does P ng nt o (cCall2 P ng c) := by
  obtain ⟨callee, args, ts⟩ := c
  unfold cCall2
  dsimp only
  split
  · split
    · rename_i hx
      have ha : args = #[_, _] := Array.ext' hx
      subst ha
      exact does_min ho
    · exact does_fail _ _ _ _
  · split
    · rename_i hx
      have ha : args = #[_, _] := Array.ext' hx
      subst ha
      exact does_max ho
    · exact does_fail _ _ _ _
  · split
    · rename_i hx
      have ha : args = #[_] := Array.ext' hx
      subst ha
      exact does_usd ho
    · exact does_fail _ _ _ _
  · split
    · rename_i hx
      split
      · rename_i hts
        have ha : args = #[_, _] := Array.ext' hx
        have hb : ts = #[_, _] := Array.ext' hts
        subst ha
        subst hb
        split
        · rename_i ht
          split
          · rename_i hc; exact does_ustr ho ht (Nat.eq_of_beq_eq_true hc)
          · exact does_fail _ _ _ _
        · exact does_fail _ _ _ _
      · exact does_fail _ _ _ _
    · exact does_fail _ _ _ _
  · split
    · rename_i hx
      split
      · rename_i hts
        have ha : args = #[_, _] := Array.ext' hx
        have hb : ts = #[_, _] := Array.ext' hts
        subst ha
        subst hb
        split
        · rename_i ht
          split
          · rename_i hi; exact does_copy ho ht hi
          · exact does_fail _ _ _ _
        · exact does_fail _ _ _ _
      · exact does_fail _ _ _ _
    · exact does_fail _ _ _ _
  · exact does_fail _ _ _ _
noncomputable def cX2 (P : Program) (ng : Nat) (o : Oper) : X := match o.op with
  | .unOp .neg _ x => xNeg (cOpd ng x)
  | .makeMap _ none => xMkMap
  | .lookup t x y ok => match P.underlying t with
    | some (.map kt et) => match P.underlying kt with
      | some d => match P.info? et with
        | some i => match i.zero with
          | some z => match gr 6 z with
            | true => xLook d z ok (cOpd ng x) (cOpd ng y)
            | false => xFail
          | none => xFail
        | none => xFail
      | none => xFail
    | _ => xFail
  | .mapUpdate t x y z => match P.underlying t with
    | some (.map kt _) => match P.underlying kt with
      | some d => xUpd d (cOpd ng x) (cOpd ng y) (cOpd ng z)
      | none => xFail
    | _ => xFail
  | .insert t x y z => match P.underlying t with
    | some (.map kt _) => match P.underlying kt with
      | some d => xUpd d (cOpd ng x) (cOpd ng y) (cOpd ng z)
      | none => xFail
    | _ => xFail
  | .makeSlice t x y => match P.underlying t with
    | some (.slice e) => match P.info? e with
      | some i => match i.zero with
        | some z => match gr 6 z with
          | true => match Nat.beq z.cells.size i.size with
            | true => match Nat.beq i.size 0 with
              | false => xMkSl e i.bytes z.cells.toList (cOpd ng x) (cOpd ng y)
              | true => xFail
            | false => xFail
          | false => xFail
        | none => xFail
      | none => xFail
    | _ => xFail
  | _ => xFail
theorem does_cX2 {P : Program} {ng nt : Nat} {o : Oper} : Does P ng nt o (cX2 P ng o) := by
  unfold cX2
  split
  · rename_i ho; exact does_neg ho
  · rename_i ho; exact does_mkMap ho
  · rename_i ho
    split
    · rename_i hm
      split
      · rename_i hd
        split
        · rename_i hi
          split
          · rename_i hz
            split
            · rename_i hg; exact does_look ho hm hd hi hz hg
            · exact does_fail _ _ _ _
          · exact does_fail _ _ _ _
        · exact does_fail _ _ _ _
      · exact does_fail _ _ _ _
    · exact does_fail _ _ _ _
  · rename_i ho
    split
    · rename_i hm
      split
      · rename_i hd; exact does_upd (.inl ho) hm hd
      · exact does_fail _ _ _ _
    · exact does_fail _ _ _ _
  · rename_i ho
    split
    · rename_i hm
      split
      · rename_i hd; exact does_upd (.inr ho) hm hd
      · exact does_fail _ _ _ _
    · exact does_fail _ _ _ _
  · rename_i ho
    split
    · rename_i ht
      split
      · rename_i hi
        split
        · rename_i hz
          split
          · rename_i hg
            split
            · rename_i hs
              split
              · rename_i hp
                exact does_mkSl ho ht hi hz hg (Nat.eq_of_beq_eq_true hs) (Nat.pos_of_ne_zero fun h => by rw [h] at hp; cases hp)
              · exact does_fail _ _ _ _
            · exact does_fail _ _ _ _
          · exact does_fail _ _ _ _
        · exact does_fail _ _ _ _
      · exact does_fail _ _ _ _
    · exact does_fail _ _ _ _
  · exact does_fail _ _ _ _
structure Tame (x : X) : Prop where
  mn : ∀ tm h v h', x tm h = .val v h' → h.n ≤ h'.n
  en : ∀ tm h f l h', x tm h = .enter f l h' → h' = h
theorem tame_fail : Tame xFail := ⟨(fun _ _ _ _ e => nomatch e), (fun _ _ _ _ _ e => nomatch e)⟩
theorem tame_xEqA (k : IntKind) (len : Nat) (op : BinOp) (x y : Opd) : Tame (xEqA k len op x y) := by
  constructor
  · intro tm h v h' e
    simp only [xEqA, eqO, lookOut] at e
    repeat' split at e
    all_goals first
      | (cases e; first | exact Nat.le_refl _ | exact Nat.le_succ _)
      | cases e
  · intro tm h f l h' e
    simp only [xEqA, eqO, lookOut] at e
    repeat' split at e
    all_goals cases e
theorem tame_xEqS (P : Program) (fs : List Field) (op : BinOp) (x y : Opd) : Tame (xEqS P fs op x y) := by
  constructor
  · intro tm h v h' e
    simp only [xEqS, eqO, lookOut] at e
    repeat' split at e
    all_goals first
      | (cases e; first | exact Nat.le_refl _ | exact Nat.le_succ _)
      | cases e
  · intro tm h f l h' e
    simp only [xEqS, eqO, lookOut] at e
    repeat' split at e
    all_goals cases e
theorem tame_xNeg (x : Opd) : Tame (xNeg x) := by
  constructor
  · intro tm h v h' e
    simp only [xNeg, eqO, lookOut] at e
    repeat' split at e
    all_goals first
      | (cases e; first | exact Nat.le_refl _ | exact Nat.le_succ _)
      | cases e
  · intro tm h f l h' e
    simp only [xNeg, eqO, lookOut] at e
    repeat' split at e
    all_goals cases e
theorem tame_xMin (x y : Opd) : Tame (xMin x y) := by
  constructor
  · intro tm h v h' e
    simp only [xMin, eqO, lookOut] at e
    repeat' split at e
    all_goals first
      | (cases e; first | exact Nat.le_refl _ | exact Nat.le_succ _)
      | cases e
  · intro tm h f l h' e
    simp only [xMin, eqO, lookOut] at e
    repeat' split at e
    all_goals cases e
theorem tame_xMax (x y : Opd) : Tame (xMax x y) := by
  constructor
  · intro tm h v h' e
    simp only [xMax, eqO, lookOut] at e
    repeat' split at e
    all_goals first
      | (cases e; first | exact Nat.le_refl _ | exact Nat.le_succ _)
      | cases e
  · intro tm h f l h' e
    simp only [xMax, eqO, lookOut] at e
    repeat' split at e
    all_goals cases e
theorem tame_xMkSl (e : TypeId) (b : Nat) (z : List Value) (x y : Opd) : Tame (xMkSl e b z x y) := by
  constructor
  · intro tm h v h' e
    simp only [xMkSl, eqO, lookOut] at e
    repeat' split at e
    all_goals first
      | (cases e; first | exact Nat.le_refl _ | exact Nat.le_succ _)
      | cases e
  · intro tm h f l h' e
    simp only [xMkSl, eqO, lookOut] at e
    repeat' split at e
    all_goals cases e
theorem tame_xCopy (n : Nat) (x y : Opd) : Tame (xCopy n x y) := by
  constructor
  · intro tm h v h' e
    simp only [xCopy, eqO, lookOut] at e
    repeat' split at e
    all_goals first
      | (cases e; first | exact Nat.le_refl _ | exact Nat.le_succ _)
      | cases e
  · intro tm h f l h' e
    simp only [xCopy, eqO, lookOut] at e
    repeat' split at e
    all_goals cases e
theorem tame_xMkMap : Tame xMkMap := by
  constructor
  · intro tm h v h' e
    simp only [xMkMap, eqO, lookOut] at e
    repeat' split at e
    all_goals first
      | (cases e; first | exact Nat.le_refl _ | exact Nat.le_succ _)
      | cases e
  · intro tm h f l h' e
    simp only [xMkMap, eqO, lookOut] at e
    repeat' split at e
    all_goals cases e
theorem tame_xLook (d : TypeDesc) (z : Value) (ok : Bool) (x y : Opd) : Tame (xLook d z ok x y) := by
  constructor
  · intro tm h v h' e
    simp only [xLook, eqO, lookOut] at e
    repeat' split at e
    all_goals first
      | (cases e; first | exact Nat.le_refl _ | exact Nat.le_succ _)
      | cases e
  · intro tm h f l h' e
    simp only [xLook, eqO, lookOut] at e
    repeat' split at e
    all_goals cases e
theorem tame_xUpd (d : TypeDesc) (x y z : Opd) : Tame (xUpd d x y z) := by
  constructor
  · intro tm h v h' e
    simp only [xUpd, eqO, lookOut] at e
    repeat' split at e
    all_goals first
      | (cases e; first | exact Nat.le_refl _ | exact Nat.le_succ _)
      | cases e
  · intro tm h f l h' e
    simp only [xUpd, eqO, lookOut] at e
    repeat' split at e
    all_goals cases e
theorem tame_xUSD (x : Opd) : Tame (xUSD x) := by
  constructor
  · intro tm h v h' e
    simp only [xUSD, eqO, lookOut] at e
    repeat' split at e
    all_goals first
      | (cases e; first | exact Nat.le_refl _ | exact Nat.le_succ _)
      | cases e
  · intro tm h f l h' e
    simp only [xUSD, eqO, lookOut] at e
    repeat' split at e
    all_goals cases e
theorem tame_xUStr (e : TypeId) (x y : Opd) : Tame (xUStr e x y) := by
  constructor
  · intro tm h v h' e
    simp only [xUStr, eqO, lookOut] at e
    repeat' split at e
    all_goals first
      | (cases e; first | exact Nat.le_refl _ | exact Nat.le_succ _)
      | cases e
  · intro tm h f l h' e
    simp only [xUStr, eqO, lookOut] at e
    repeat' split at e
    all_goals cases e
theorem tame_xBS0 (e : TypeId) (n : Nat) (l : List (Nat × Operand)) : Tame (xBS0 e n l) := by
  unfold xBS0
  repeat' split
  all_goals first
    | exact tame_fail
    | exact ⟨(fun tm h v h' e => by unfold xMk0 at e; cases e; exact Nat.le_succ _), (fun tm h f l h' e => by unfold xMk0 at e; cases e)⟩
theorem tame_cBin2 (P : Program) (ng : Nat) (op : BinOp) (t : TypeId) (x y : Operand) : Tame (cBin2 P ng op t x y) := by
  unfold cBin2
  repeat' split
  all_goals first
    | exact tame_fail
    | exact tame_xEqA _ _ _ _ _
    | exact tame_xEqS _ _ _ _ _
theorem tame_cCall2 (P : Program) (ng : Nat) (c : Call) : Tame (cCall2 P ng c) := by
  unfold cCall2
  repeat' split
  all_goals first
    | exact tame_fail
    | exact tame_xMin _ _
    | exact tame_xMax _ _
    | exact tame_xUSD _
    | exact tame_xUStr _ _ _
    | exact tame_xCopy _ _ _
theorem tame_cX2 (P : Program) (ng : Nat) (o : Oper) : Tame (cX2 P ng o) := by
  unfold cX2
  repeat' split
  all_goals first
    | exact tame_fail
    | exact tame_xNeg _
    | exact tame_xMkMap
    | exact tame_xLook _ _ _ _ _
    | exact tame_xUpd _ _ _ _
    | exact tame_xMkSl _ _ _ _ _
theorem xLook_same (d : TypeDesc) (z : Value) (ok : Bool) (x y : Opd) (tm : Fr) (h : H) : (∀ v h', xLook d z ok x y tm h = .val v h' → h' = h) ∧ ∀ f l h', xLook d z ok x y tm h ≠ .enter f l h' := by
  constructor
  · intro v h' e
    simp only [xLook, lookOut] at e
    repeat' split at e
    all_goals (cases e; try rfl)
  · intro f l h' e
    simp only [xLook, lookOut] at e
    repeat' split at e
    all_goals cases e
end Go.Proofs.YtbhkfifmgbcknaaGreatDoor.Ex
