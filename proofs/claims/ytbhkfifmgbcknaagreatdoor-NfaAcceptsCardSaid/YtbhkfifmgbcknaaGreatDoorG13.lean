/-
  A part of the proof of the statement NfaAccepts.
-/
import Derived.Test.YtbhkfifmgbcknaaGreatDoorExH
import Derived.Laws.AppendOwn
set_option linter.unusedSimpArgs false
set_option linter.unusedVariables false
namespace Go.Proofs.YtbhkfifmgbcknaaGreatDoor.Ex
open Go Go.RowKit
def dropF (F : Full) (i : Nat) : Full := fun j => if j = i then none else F j
theorem Go.grow {E : Env} {F : Full} {h : H} {w w' : World} (s : St E F h w) (hn : E h.n = none) {i : Nat} {e0 ent : Ent} {p q : Pl} (hg : h.t.get i = some e0) (he : E i = some p) (hq : q.b = p.b ∨ w.heap.size ≤ q.b)
    (ha : ∀ E', E.le E' → At E' w' q ent) (hb : ∀ k, k < w.heap.size → k ≠ p.b → w'.heap[k]? = w.heap[k]?) (hz : w.heap.size ≤ w'.heap.size) (hos : w'.os = w.os) (ht : w'.tape = w.tape) (ho : w'.output = w.output) :
    Go E F h w (putE E h.n q) (putF (dropF F i) h.n ent) ⟨(h.t.del i).set ent h.n, Nat.succ h.n⟩ w' := by
  have hf0 := s.sub i e0 hg
  have hin : i ≠ h.n := fun h => by rw [h, hn] at he; cases he
  have hle := putE_le (p := q) hn
  have hE : ∀ j, j ≠ h.n → putE E h.n q j = E j := fun j hj => by unfold putE; rw [if_neg hj]
  have hE0 : putE E h.n q h.n = some q := putE_at _ _ _
  have hFn : ∀ j, j ≠ h.n → j ≠ i → putF (dropF F i) h.n ent j = F j := fun j h1 h2 => by unfold putF dropF; rw [if_neg h1, if_neg h2]
  have hF0 : putF (dropF F i) h.n ent h.n = some ent := by unfold putF; rw [if_pos rfl]
  have hFi : putF (dropF F i) h.n ent i = none := by unfold putF dropF; rw [if_neg hin, if_pos rfl]
  have hold : ∀ j e, putF (dropF F i) h.n ent j = some e → j ≠ h.n → j ≠ i ∧ F j = some e := fun j e hf hj => by
    by_cases hji : j = i
    · subst hji; rw [hFi] at hf; cases hf
    · rw [hFn j hj hji] at hf; exact ⟨hji, hf⟩
  have hblk : ∀ j e r, F j = some e → E j = some r → j ≠ i → r.b < w.heap.size ∧ r.b ≠ p.b ∧ r.b ≠ q.b := fun j e r hf hr hji => by
    obtain ⟨r', hr', hat⟩ := s.rel.at_ j e hf
    rw [hr] at hr'
    injection hr' with hr'
    subst hr'
    have h1 := hat.lt
    have h2 := s.rel.ne j i e e0 r p hf hf0 hji hr he
    refine ⟨h1, h2, ?_⟩
    rcases hq with hq | hq
    · rw [hq]; exact h2
    · omega
  refine ⟨⟨hle, ⟨?_, ?_, kOnly (fun b hbk => hb b (s.rel.kb b hbk).1 (fun h => (s.rel.kb b hbk).2 i e0 p hf0 he h.symm)) s.rel.kn, ?_⟩, ?_, ?_, hz, hos, ht, ho, Nat.le_succ _, ?_⟩, ⟨?_, ?_, ?_, Nat.le_succ _⟩⟩
  · intro j e hf
    by_cases hj : j = h.n
    · subst hj
      rw [hF0] at hf
      injection hf with hf
      subst hf
      exact ⟨q, hE0, ha _ hle⟩
    · obtain ⟨hji, hf'⟩ := hold j e hf hj
      obtain ⟨r, hr, hat⟩ := s.rel.at_ j e hf'
      obtain ⟨h1, h2, -⟩ := hblk j e r hf' hr hji
      exact ⟨r, (hE j hj).trans hr, hat.mono hle (hb _ h1 h2)⟩
  · intro j k e e' r r' hfj hfk hjk hej hek
    by_cases hj : j = h.n
    · have hk : k ≠ h.n := fun hk => hjk (hj.trans hk.symm)
      obtain ⟨hki, hfk'⟩ := hold k e' hfk hk
      rw [hE k hk] at hek
      obtain ⟨-, -, h3⟩ := hblk k e' r' hfk' hek hki
      rw [hj, hE0] at hej
      injection hej with hej
      subst hej
      exact fun h => h3 h.symm
    · obtain ⟨hji, hfj'⟩ := hold j e hfj hj
      rw [hE j hj] at hej
      by_cases hk : k = h.n
      · obtain ⟨-, -, h3⟩ := hblk j e r hfj' hej hji
        rw [hk, hE0] at hek
        injection hek with hek
        subst hek
        exact h3
      · obtain ⟨hki, hfk'⟩ := hold k e' hfk hk
        rw [hE k hk] at hek
        exact s.rel.ne j k e e' r r' hfj' hfk' hjk hej hek
  · intro b hbk
    have hbs := s.rel.kb b hbk
    refine ⟨Nat.lt_of_lt_of_le hbs.1 hz, fun j e r hf hr => ?_⟩
    by_cases hj : j = h.n
    · rw [hj, hE0] at hr
      cases hr
      rcases hq with hq | hq
      · rw [hq]; exact hbs.2 i e0 p hf0 he
      · have := hbs.1
        omega
    · obtain ⟨-, hf'⟩ := hold j e hf hj
      rw [hE j hj] at hr
      exact hbs.2 j e r hf' hr
  · intro j e r hf hr
    by_cases hj : j = h.n
    · rw [hj, hE0] at hr
      injection hr with hr
      subst hr
      rcases hq with hq | hq
      · exact .inr ⟨i, e0, p, hf0, he, hq.symm⟩
      · exact .inl hq
    · obtain ⟨-, hf'⟩ := hold j e hf hj
      rw [hE j hj] at hr
      exact .inr ⟨j, e, r, hf', hr, rfl⟩
  · intro b hbl hne
    exact hb b hbl (fun hbp => hne i e0 p hf0 he hbp.symm)
  · intro j hj
    refine hE j ?_
    rcases hj with hj | hj
    · omega
    · have hj' : Nat.succ h.n ≤ j := hj
      omega
  · intro j e hgj
    have hgj' : ((h.t.del i).set ent h.n).get j = some e := hgj
    rw [T.get_set, T.get_del] at hgj'
    by_cases hj : j = h.n
    · rw [if_pos hj] at hgj'
      rw [hj, hF0]
      exact hgj'
    · rw [if_neg hj] at hgj'
      by_cases hji : j = i
      · rw [if_pos hji] at hgj'; cases hgj'
      · rw [if_neg hji] at hgj'
        rw [hFn j hj hji]
        exact s.sub j e hgj'
  · intro j hj hgj
    refine hFn j ?_ (fun hji => by rw [hji, hg] at hgj; cases hgj)
    rcases hj with hj | hj
    · omega
    · have hj' : Nat.succ h.n ≤ j := hj
      omega
  · intro j hj hgj
    show ((h.t.del i).set ent h.n).get j = none
    rw [T.get_set, if_neg (by
      rcases hj with hj | hj
      · omega
      · have hj' : Nat.succ h.n ≤ j := hj
        omega), T.get_del]
    split
    · rfl
    · exact hgj
theorem run_app_in {P : Program} {t tx e ty : TypeId} {i : TypeInfo} (ht : P.underlying t = some (.slice e)) (hi : P.info? e = some i) (hx : (∃ e', P.underlying tx = some (.slice e')) ∨ P.underlying tx = some .string)
    {base : Option Addr} {sLen sCap n : Nat} {x : Value} {news : List Value} {w w' : World} (hl : (Builtin.lenOf x).run P w = .ok n w) (hroom : sLen + n ≤ sCap) (hf : (Builtin.firstCells i.size n x).run P w = .ok news.toArray w)
    (hst : ∀ a, base = some a → (storeCells (a.add (sLen * i.size)) news).run P w = .ok () w') (hnil : base = none → w' = w) :
    (Builtin.append_ #[t, tx] ty #[.slice base sLen sCap, x]).run P w = .ok (.slice base (sLen + n) sCap) w' := by
  cases base with
  | none =>
    have e := hnil rfl
    subst e
    rcases hx with ⟨e', hx⟩ | hx
    · simp [Builtin.append_, run_underlying ht, run_underlying hx, run_size hi, hl, hroom, hf]
    · simp [Builtin.append_, run_underlying ht, run_underlying hx, run_size hi, hl, hroom, hf]
  | some a =>
    have hs := hst a rfl
    rcases hx with ⟨e', hx⟩ | hx
    · simp [Builtin.append_, run_underlying ht, run_underlying hx, run_size hi, hl, hroom, hf, hs]
    · simp [Builtin.append_, run_underlying ht, run_underlying hx, run_size hi, hl, hroom, hf, hs]
theorem run_app_new {P : Program} {t tx e ty : TypeId} {i : TypeInfo} {z : Value} (ht : P.underlying t = some (.slice e)) (hi : P.info? e = some i) (hz : i.zero = some z) (hx : (∃ e', P.underlying tx = some (.slice e')) ∨ P.underlying tx = some .string)
    {base : Option Addr} {sLen sCap n : Nat} {x : Value} {olds news : List Value} {w : World} (hl : (Builtin.lenOf x).run P w = .ok n w) (hg : sCap < sLen + n) (hb0 : i.bytes ≠ 0) (hb : (sLen + n) * i.bytes ≤ 140737488355328)
    (hfo : (Builtin.firstCells i.size sLen (.slice base sLen sCap)).run P w.drew = .ok olds.toArray w.drew) (hf : (Builtin.firstCells i.size n x).run P w.drew = .ok news.toArray w.drew) :
    (Builtin.append_ #[t, tx] ty #[.slice base sLen sCap, x]).run P w =
      .ok (.slice (some ⟨w.heap.size, 0, none⟩) (sLen + n) (grownCap w (sLen + n) sCap e)) (w.drew.alloc (.cells (olds ++ news ++ (Builtin.zeroCells z.cells (grownCap w (sLen + n) sCap e - (sLen + n))).toList).toArray e (0, 0))) := by
  have hroom : ¬ (sLen + n ≤ sCap) := by omega
  have h48 : ¬ (281474976710656 < Builtin.nextslicecap (sLen + n) sCap * i.bytes) := by
    have := growslice_fits hg hb
    omega
  have hq : (Question.appendCap (sLen + n) sCap e).forced = false := rfl
  rcases hx with ⟨e', hx⟩ | hx
  · simp [Builtin.append_, run_underlying ht, run_underlying hx, run_size hi, run_info hi, run_zero hi hz, hl, hroom, hb0, h48, hq, hf, hfo, newRow, grownCap]
    congr 2
    apply Array.ext'
    simp [List.append_assoc]
  · simp [Builtin.append_, run_underlying ht, run_underlying hx, run_size hi, run_info hi, run_zero hi hz, hl, hroom, hb0, h48, hq, hf, hfo, newRow, grownCap]
    congr 2
    apply Array.ext'
    simp [List.append_assoc]
noncomputable def byteV (l : List UInt8) : List Value := List.rec (motive := fun _ => List Value) [] (fun b _ ih => .int .u8 (Int.ofNat b.toNat) :: ih) l
theorem byteV_eq : ∀ (l : List UInt8), byteV l = l.map fun b => .int .u8 (b.toNat : Int)
  | [] => rfl
  | b :: l => by show _ :: byteV l = _; rw [byteV_eq l]; rfl
noncomputable def srcOf (size : Nat) (h : H) (v : Value) : Option (Nat × List Value) := match v with
  | .slice none n _ => match Nat.beq n 0 with
    | true => some (0, [])
    | false => none
  | .slice (some ⟨b, o, _⟩) n _ => match cellsAt h b o (Nat.mul n size) with
    | some l => some (n, l)
    | none => none
  | .string s => match Nat.beq size 1 with
    | true => some (llen s.data.toList, byteV s.data.toList)
    | false => none
  | _ => none
theorem vsr_byteV (E : Env) : ∀ (l : List UInt8), VsR E (byteV l) (byteV l)
  | [] => .nil
  | b :: l => .cons (.int _ _) (vsr_byteV E l)
theorem load_at {P : Program} {w w' : World} {b o n : Nat} {l' : List Value} (hc : ∀ a, w'.cell? a = w.cell? a) (hl : l'.length = n) (h : ∀ j v, l'[j]? = some v → w.cell? ⟨b, o + j, none⟩ = some v) : (loadCells ⟨b, o, none⟩ n).run P w' = .ok l'.toArray w' := by
  have := run_loadCells_list (P := P) w' ⟨b, o, none⟩ l' (fun j v hj => by rw [add_at, hc]; exact h j v hj)
  rwa [hl] at this
theorem src_ok {P : Program} {E : Env} {F : Full} {h : H} {w : World} (s : St E F h w) {size n : Nat} {l : List Value} {v v' : Value} (hs : srcOf size h v = some (n, l)) (hv : VR E v v') :
    ∃ l', VsR E l l' ∧ l.length = n * size ∧ (∀ w' : World, (Builtin.lenOf v').run P w' = .ok n w') ∧ ∀ w' : World, (∀ a, w'.cell? a = w.cell? a) → (Builtin.firstCells size n v').run P w' = .ok l'.toArray w' := by
  unfold srcOf at hs
  cases v with
  | slice p m c =>
    cases p with
    | none =>
      dsimp only at hs
      cases hm : Nat.beq m 0 with
      | false => rw [hm] at hs; cases hs
      | true =>
        rw [hm] at hs
        have := Nat.eq_of_beq_eq_true hm
        subst this
        cases hs
        rw [hv.slice0_inv]
        exact ⟨[], .nil, by simp, fun w' => rfl, fun w' _ => rfl⟩
    | some p =>
      obtain ⟨b, o, sp⟩ := p
      dsimp only at hs
      obtain ⟨q, c', h1, -, h3, -⟩ := hv.slice_inv
      cases hc : cellsAt h b o (Nat.mul m size) with
      | none => rw [hc] at hs; cases hs
      | some l0 =>
        rw [hc] at hs
        cases hs
        obtain ⟨l', h4, h5, h6, -⟩ := cellsAt_ok (P := P) s hc h1
        rw [h3]
        refine ⟨l', h4, h5, fun w' => rfl, fun w' hw => ?_⟩
        exact load_at hw (by rw [← h4.length]; exact h5) h6
  | string str =>
    dsimp only at hs
    cases hz : Nat.beq size 1 with
    | false => rw [hz] at hs; cases hs
    | true =>
      rw [hz] at hs
      have := Nat.eq_of_beq_eq_true hz
      subst this
      cases hs
      rw [hv.string_inv]
      have hl : llen str.data.toList = str.size := by rw [llen_eq]; simp
      refine ⟨byteV str.data.toList, vsr_byteV E _, by rw [byteV_eq]; simp [hl], fun w' => by rw [hl]; rfl, fun w' _ => ?_⟩
      have e : ((str.extract 0 (llen str.data.toList)).data.map fun b => Value.int .u8 (b.toNat : Int)) = (byteV str.data.toList).toArray := by
        rw [hl, byteV_eq]
        apply Array.ext'
        have e2 := bytes_cut str 0 str.size
        rw [e2]
        simp
        rw [List.take_of_length_le (by simp)]
      show Result.ok _ _ = _
      rw [e]
  | _ => cases hs
noncomputable def newR (e : TypeId) (size need : Nat) (cs : List Value) (t : T Ent) (n : Nat) : Out := .val (.slice (some ⟨n, 0, none⟩) need 0) ⟨t.set (.row e size cs) n, Nat.succ n⟩
noncomputable def xApp (e : TypeId) (size bytes : Nat) (x y : Opd) : X := fun tm h => match ev tm x with
  | some (.slice base len c) => match ev tm y with
    | some u => match srcOf size h u with
      | some (n, news) => match Nat.ble (Nat.mul (Nat.add len n) bytes) 140737488355328 with
        | true => match base with
          | none => match Nat.beq len 0 with
            | true => match Nat.beq c 0 with
              | true => match Nat.beq n 0 with
                | true => .val (.slice none len c) h
                | false => newR e size n news h.t h.n
              | false => .fail
            | false => .fail
          | some ⟨i, o, _⟩ => match ones news with
            | false => .fail
            | true => match h.t.get i with
              | some (.cells e' cs) => match Nat.ble (Nat.add len n) c with
                | true => match lput (Nat.add o (Nat.mul len size)) news cs with
                  | some cs2 => .val (.slice (some ⟨i, o, none⟩) (Nat.add len n) c) ⟨h.t.set (.cells e' cs2) i, h.n⟩
                  | none => .fail
                | false => match cellsAt h i o (Nat.mul len size) with
                  | some olds => newR e size (Nat.add len n) (olds ++ news) h.t h.n
                  | none => .fail
              | some (.row e' s' cs) => match Nat.beq s' size with
                | false => .fail
                | true => match Nat.beq o (Nat.mul c size) with
                  | false => .fail
                  | true => match Nat.ble (Nat.mul (Nat.add c len) size) (llen cs) with
                    | false => .fail
                    | true => match Nat.ble (Nat.mul (Nat.add c (Nat.add len n)) size) (llen cs) with
                      | true => match lput (Nat.add o (Nat.mul len size)) news cs with
                        | some cs2 => .val (.slice (some ⟨i, o, none⟩) (Nat.add len n) c) ⟨h.t.set (.row e' s' cs2) i, h.n⟩
                        | none => .fail
                      | false => match Nat.beq e' e with
                        | false => .fail
                        | true => match cellsAt h i o (Nat.mul len size) with
                          | some olds => newR e size (Nat.add len n) (olds ++ news) (h.t.del i) h.n
                          | none => .fail
              | _ => .fail
        | false => .fail
      | none => .fail
    | none => .fail
  | _ => .fail
theorem run_ap {P : Program} {o : Oper} {t tx : TypeId} {x y : Operand} (ho : o.op = .call { callee := .builtin .append, args := #[x, y], argTypes := #[t, tx] }) (a : Act) (w w' : World) {r : Value} (hr : (Builtin.append_ #[t, tx] o.type #[a.eval x, a.eval y]).run P w = .ok r w') : (execOp a.eval o).run P w = .ok (.value r) w' := by
  simp [execOp, ho, resolve, invoke, builtin, hr]
theorem At.fresh {E : Env} {w : World} {b e size need cap : Nat} {cs cs' zs : List Value} (hb : w.heap[b]? = some (.cells (cs' ++ zs).toArray e (0, 0))) (hv : VsR E cs cs') (hs : 0 < size) (hl : cs.length = need * size) (hz : zs.length = (cap - need) * size) (hc : need ≤ cap) : At E w ⟨b, 0, some cap⟩ (.row e size cs) := by
  have h1 : need * size + (cap - need) * size = cap * size := by rw [← Nat.add_mul]; congr 1; omega
  have h2 := hv.length
  refine ⟨cap, _, rfl, hb, hs, ?_, ?_, ?_⟩
  · rw [hl]; exact Nat.mul_le_mul_right _ hc
  · simp; omega
  · have e3 : ((cs' ++ zs).toArray.toList.drop 0).take cs.length = cs' := by
      simp [h2]
    rw [e3]; exact hv
theorem seg_grow {α : Type} (A vs : List α) (K L : Nat) (h : K + L + vs.length ≤ A.length) : ((A.take (K + L) ++ vs ++ A.drop (K + L + vs.length)).drop K).take (L + vs.length) = (A.drop K).take L ++ vs := by
  apply List.ext_getElem?
  intro j
  rw [List.getElem?_take, List.getElem?_drop, List.append_assoc]
  have e1 : (A.take (K + L)).length = K + L := by simp; omega
  have e2 : ((A.drop K).take L).length = L := by simp; omega
  by_cases hj : j < L + vs.length
  · rw [if_pos hj]
    by_cases c1 : j < L
    · rw [List.getElem?_append_left (l₁ := A.take (K + L)) (by rw [e1]; omega), List.getElem?_append_left (l₁ := (A.drop K).take L) (by rw [e2]; exact c1), List.getElem?_take, if_pos (by omega), List.getElem?_take, if_pos c1, List.getElem?_drop]
    · rw [List.getElem?_append_right (l₁ := A.take (K + L)) (by rw [e1]; omega), List.getElem?_append_right (l₁ := (A.drop K).take L) (by rw [e2]; omega), e1, e2, List.getElem?_append_left (l₁ := vs) (by omega)]
      congr 1
      omega
  · rw [if_neg hj]
    symm
    apply List.getElem?_eq_none
    rw [List.length_append, e2]
    omega
theorem seg_cut {α : Type} (A : List α) (po m L n : Nat) (h : m + L ≤ n) : (((A.drop po).take n).drop m).take L = (A.drop (po + m)).take L := by
  apply List.ext_getElem?
  intro j
  rw [List.getElem?_take, List.getElem?_take]
  by_cases hj : j < L
  · rw [if_pos hj, if_pos hj, List.getElem?_drop, List.getElem?_take, if_pos (by omega), List.getElem?_drop, List.getElem?_drop]
    congr 1
    omega
  · rw [if_neg hj, if_neg hj]
theorem cellsAt_eq {h : H} {b o n : Nat} {e : Ent} {cs l : List Value} (hb : h.t.get b = some e) (hc : e.cs = some cs) (hl : cellsAt h b o n = some l) : l = (cs.drop o).take n := by
  unfold cellsAt at hl
  rw [hb] at hl
  dsimp only at hl
  rw [hc] at hl
  dsimp only at hl
  rw [(lcut_eq n _ l hl).1, ldrop_eq]
theorem does_app {P : Program} {ng nt : Nat} {o : Oper} {t tx e : TypeId} {x y : Operand} (ho : o.op = .call { callee := .builtin .append, args := #[x, y], argTypes := #[t, tx] }) (ht : P.underlying t = some (.slice e)) (hx : (∃ e', P.underlying tx = some (.slice e')) ∨ P.underlying tx = some .string)
    {i : TypeInfo} {z : Value} (hi : P.info? e = some i) (hz : i.zero = some z) (hb0 : i.bytes ≠ 0) (hs0 : 0 < i.size) (hzs : z.cells.size = i.size) : Does P ng nt o (xApp e i.size i.bytes (cOpd ng x) (cOpd ng y)) := by
  intro tm h E F w a df s hg htm
  have hzl : ∀ k, (Builtin.zeroCells z.cells k).toList.length = k * i.size := fun k => by rw [Array.length_toList, size_zeroCells, hzs]
  unfold xApp
  cases hev : ev tm (cOpd ng x) with
  | none => exact trivial
  | some v =>
    have hv := ev_ok hg htm hev
    cases v with
    | slice base len c =>
      dsimp only
      cases hey : ev tm (cOpd ng y) with
      | none => exact trivial
      | some u =>
        have hu := ev_ok hg htm hey
        dsimp only
        cases hsrc : srcOf i.size h u with
        | none => exact trivial
        | some q =>
          obtain ⟨n, news⟩ := q
          obtain ⟨news', hnv, hnl, hlen, hfirst⟩ := src_ok (P := P) s hsrc hu
          dsimp only
          cases hbd : Nat.ble (Nat.mul (Nat.add len n) i.bytes) 140737488355328 with
          | false => exact trivial
          | true =>
            have hbd' : (len + n) * i.bytes ≤ 140737488355328 := Nat.le_of_ble_eq_true hbd
            have hfd := hfirst w.drew (fun _ => rfl)
            have hf0 := hfirst w (fun _ => rfl)
            dsimp only
            cases base with
            | none =>
              dsimp only
              cases h1 : Nat.beq len 0 with
              | false => exact trivial
              | true =>
                dsimp only
                cases h2 : Nat.beq c 0 with
                | false => exact trivial
                | true =>
                  have e1 := Nat.eq_of_beq_eq_true h1
                  have e2 := Nat.eq_of_beq_eq_true h2
                  subst e1
                  subst e2
                  have hsv := hv.slice0_inv
                  dsimp only
                  cases h3 : Nat.beq n 0 with
                  | true =>
                    have e3 := Nat.eq_of_beq_eq_true h3
                    subst e3
                    refine Told.same s (.slice0 0 0) (run_ap ho a w w ?_)
                    rw [hsv]
                    exact run_app_in ht hi hx (hlen w) (Nat.le_refl _) hf0 (fun _ h => by cases h) (fun _ => rfl)
                  | false =>
                    have hn0 : n ≠ 0 := fun h => by rw [h] at h3; cases h3
                    refine fun hfr => ?_
                    have hn : E h.n = none := hfr h.n (Nat.le_refl _) (Nat.lt_succ_self _)
                    have hr := run_app_new (ty := o.type) ht hi hz hx (base := none) (sLen := 0) (sCap := 0) (olds := []) (w := w) (hlen w) (by omega) hb0 hbd' (by rfl) hfd
                    rw [Nat.zero_add] at hr
                    refine ⟨_, _, _, _, (Go.drew s).trans (Go.new (Go.drew s).st hn _ (.row e i.size news) (some (grownCap w n 0 e)) ?_), .inl ⟨_, rfl, VR.grown (o := 0) n 0 _ (putE_at _ _ _) rfl⟩, run_ap ho a w _ (by rw [hsv]; exact hr)⟩
                    intro E' w' hle hbk
                    exact At.fresh hbk (hnv.mono hle) hs0 hnl (hzl _) (grownCap_ge w n 0 e)
            | some p =>
              obtain ⟨k, m, sp⟩ := p
              obtain ⟨pl, c', hp, -, hsv, hcap⟩ := hv.slice_inv
              dsimp only
              cases hone : ones news with
              | false => exact trivial
              | true =>
                dsimp only
                cases hk : h.t.get k with
                | none => exact trivial
                | some ent =>
                  have hat := s.at_ hk hp
                  cases ent with
                  | map es => exact trivial
                  | cells e' cs =>
                    obtain ⟨hpo, hpc, -⟩ := hat
                    have hcc : c' = c := by
                      rcases hcap with ⟨-, h⟩ | ⟨_, h, -⟩
                      · exact h
                      · rw [hpc] at h; cases h
                    subst hcc
                    dsimp only
                    cases hroom : Nat.ble (Nat.add len n) c' with
                    | true =>
                      have hroom' : len + n ≤ c' := Nat.le_of_ble_eq_true hroom
                      dsimp only
                      cases hlp : lput (Nat.add m (Nat.mul len i.size)) news cs with
                      | none => exact trivial
                      | some cs2 =>
                        obtain ⟨w', hgo, hst⟩ := put_cells (P := P) s hk hp rfl hnv hone hlp
                        refine fun _ => ⟨_, _, w', _, hgo, .inl ⟨_, rfl, VR.slice (len + n) c' hp hpc⟩, run_ap ho a w w' ?_⟩
                        rw [hsv]
                        refine run_app_in ht hi hx (hlen w) hroom' hf0 (fun a ha => ?_) (fun h => by cases h)
                        injection ha with ha
                        subst ha
                        rw [add_at, Nat.add_assoc]
                        exact hst
                    | false =>
                      have hroom' : c' < len + n := by
                        have : ¬ (Nat.ble (len + n) c' = true) := fun h => by rw [show Nat.add len n = len + n from rfl, h] at hroom; cases hroom
                        rw [Nat.ble_eq] at this
                        omega
                      dsimp only
                      cases hol : cellsAt h k m (Nat.mul len i.size) with
                      | none => exact trivial
                      | some olds =>
                        obtain ⟨olds', hov, hoL, hoc, -⟩ := cellsAt_ok (P := P) s hol hp
                        refine fun hfr => ?_
                        have hn : E h.n = none := hfr h.n (Nat.le_refl _) (Nat.lt_succ_self _)
                        have hr := run_app_new (ty := o.type) ht hi hz hx (base := some ⟨pl.b, pl.o + m, none⟩) (sLen := len) (sCap := c') (olds := olds') (w := w) (hlen w) hroom' hb0 hbd' (load_at (fun _ => rfl) (by rw [← hov.length]; exact hoL) hoc) hfd
                        have hcl : (olds ++ news).length = (len + n) * i.size := by rw [List.length_append, hoL, hnl, Nat.add_mul]; rfl
                        refine ⟨_, _, _, _, (Go.drew s).trans (Go.new (Go.drew s).st hn _ (.row e i.size (olds ++ news)) (some (grownCap w (len + n) c' e)) ?_), .inl ⟨_, rfl, VR.grown (o := 0) (len + n) 0 _ (putE_at _ _ _) rfl⟩, run_ap ho a w _ (by rw [hsv]; exact hr)⟩
                        intro E' w' hle hbk
                        exact At.fresh hbk ((hov.append hnv).mono hle) hs0 hcl (hzl _) (grownCap_ge w (len + n) c' e)
                  | row e' s' cs =>
                    obtain ⟨cc, arr, hpc, hheap, hsp, hle1, hsz, hcs⟩ := hat
                    have hcc : c' = cc - c := by
                      rcases hcap with ⟨h, -⟩ | ⟨mm, h, h2⟩
                      · rw [hpc] at h; cases h
                      · rw [hpc] at h
                        injection h with h
                        rw [h]; exact h2
                    dsimp only
                    cases hs1 : Nat.beq s' i.size with
                    | false => exact trivial
                    | true =>
                      have es := Nat.eq_of_beq_eq_true hs1
                      subst es
                      dsimp only
                      cases hm1 : Nat.beq m (Nat.mul c i.size) with
                      | false => exact trivial
                      | true =>
                        have em : m = c * i.size := Nat.eq_of_beq_eq_true hm1
                        dsimp only
                        cases hl1 : Nat.ble (Nat.mul (Nat.add c len) i.size) (llen cs) with
                        | false => exact trivial
                        | true =>
                          have hl1' : (c + len) * i.size ≤ cs.length := by have := Nat.le_of_ble_eq_true hl1; rwa [llen_eq] at this
                          have hcl1 : c + len ≤ cc := Nat.le_of_mul_le_mul_right (Nat.le_trans hl1' hle1) hs0
                          dsimp only
                          cases hl2 : Nat.ble (Nat.mul (Nat.add c (Nat.add len n)) i.size) (llen cs) with
                          | true =>
                            have hl2' : (c + (len + n)) * i.size ≤ cs.length := by have := Nat.le_of_ble_eq_true hl2; rwa [llen_eq] at this
                            have hcl2 : c + (len + n) ≤ cc := Nat.le_of_mul_le_mul_right (Nat.le_trans hl2' hle1) hs0
                            dsimp only
                            cases hlp : lput (Nat.add m (Nat.mul len i.size)) news cs with
                            | none => exact trivial
                            | some cs2 =>
                              obtain ⟨w', hgo, hst⟩ := put_cells (P := P) s hk hp rfl hnv hone hlp
                              refine fun _ => ⟨_, _, w', _, hgo, .inl ⟨_, rfl, VR.grown (len + n) c cc hp hpc⟩, run_ap ho a w w' ?_⟩
                              rw [hsv, hcc]
                              refine run_app_in ht hi hx (hlen w) (by omega) hf0 (fun a ha => ?_) (fun h => by cases h)
                              injection ha with ha
                              subst ha
                              rw [add_at, Nat.add_assoc]
                              exact hst
                          | false =>
                            dsimp only
                            cases he1 : Nat.beq e' e with
                            | false => exact trivial
                            | true =>
                              have ee := Nat.eq_of_beq_eq_true he1
                              subst ee
                              dsimp only
                              cases hol : cellsAt h k m (Nat.mul len i.size) with
                              | none => exact trivial
                              | some olds =>
                                obtain ⟨olds', hov, hoL, hoc, -⟩ := cellsAt_ok (P := P) s hol hp
                                have hcl : (olds ++ news).length = (len + n) * i.size := by rw [List.length_append, hoL, hnl, Nat.add_mul]; rfl
                                refine fun hfr => ?_
                                have hn : E h.n = none := hfr h.n (Nat.le_refl _) (Nat.lt_succ_self _)
                                by_cases hroom : len + n ≤ cc - c
                                ·
                                  have hmul : (len + n) * i.size ≤ (cc - c) * i.size := Nat.mul_le_mul_right _ hroom
                                  have hmul2 : c * i.size + (cc - c) * i.size = cc * i.size := by rw [← Nat.add_mul]; congr 1; omega
                                  have hmul3 : (len + n) * i.size = len * i.size + n * i.size := Nat.add_mul _ _ _
                                  have hnl' : news'.length = n * i.size := by rw [← hnv.length]; exact hnl
                                  have hone' := ones_ok hnv hone
                                  have hst := run_storeCells_at (P := P) pl.b (pl.o + m + len * i.size) e' news' 0 arr w hheap (by omega) hone'
                                  have hq : ∀ E', E.le E' → At E' (w.setRow pl.b (arr.toList.take (pl.o + m + len * i.size) ++ news' ++ arr.toList.drop (pl.o + m + len * i.size + news'.length)).toArray) ⟨pl.b, pl.o + m, some (cc - c)⟩ (.row e' i.size (olds ++ news)) := by
                                    intro E' hle
                                    refine ⟨cc - c, _, rfl, setRow_heap w pl.b _ _ _ _ hheap, hs0, by rw [hcl]; exact hmul, by simp; omega, ?_⟩
                                    have eo := cellsAt_eq hk rfl hol
                                    have hmL : m + len * i.size ≤ cs.length := by rw [em, ← Nat.add_mul]; exact hl1'
                                    have hv1 : VsR E olds ((arr.toList.drop (pl.o + m)).take (len * i.size)) := by
                                      have := (hcs.drop m).take (len * i.size)
                                      rw [seg_cut _ _ _ _ _ hmL] at this
                                      rw [eo]; exact this
                                    have e9 := seg_grow arr.toList news' (pl.o + m) (len * i.size) (by simp; omega)
                                    have e10 : (olds ++ news).length = len * i.size + news'.length := by rw [hcl, hmul3, hnl']
                                    show VsR E' (olds ++ news) (((arr.toList.take (pl.o + m + len * i.size) ++ news' ++ arr.toList.drop (pl.o + m + len * i.size + news'.length)).drop (pl.o + m)).take (olds ++ news).length)
                                    rw [e10, e9]
                                    exact (hv1.append hnv).mono hle
                                  refine ⟨_, _, _, _, Go.grow s hn hk hp (q := ⟨pl.b, pl.o + m, some (cc - c)⟩) (.inl rfl) hq (fun b _ hb => setRow_other _ _ _ _ hb) (by simp) rfl rfl rfl, .inl ⟨_, rfl, VR.grown (o := 0) (len + n) 0 _ (putE_at _ _ _) rfl⟩, run_ap ho a w _ ?_⟩
                                  rw [hsv, hcc]
                                  refine run_app_in ht hi hx (hlen w) hroom hf0 (fun a ha => ?_) (fun h => by cases h)
                                  injection ha with ha
                                  subst ha
                                  rw [add_at]
                                  simpa using hst
                                ·
                                  have hr := run_app_new (ty := o.type) ht hi hz hx (base := some ⟨pl.b, pl.o + m, none⟩) (sLen := len) (sCap := cc - c) (olds := olds') (w := w) (hlen w) (by omega) hb0 hbd' (load_at (fun _ => rfl) (by rw [← hov.length]; exact hoL) hoc) hfd
                                  refine ⟨_, _, _, _, (Go.drew s).trans (Go.grow (w' := w.drew.alloc (.cells (olds' ++ news' ++ (Builtin.zeroCells z.cells (grownCap w (len + n) (cc - c) e' - (len + n))).toList).toArray e' (0, 0))) (Go.drew s).st hn hk hp (q := ⟨w.heap.size, 0, some (grownCap w (len + n) (cc - c) e')⟩) (.inr (Nat.le_refl _)) ?_ ?_ ?_ rfl rfl rfl), .inl ⟨_, rfl, VR.grown (o := 0) (len + n) 0 _ (putE_at _ _ _) rfl⟩, run_ap ho a w _ (by rw [hsv, hcc]; exact hr)⟩
                                  · intro E' hle
                                    exact At.fresh (heap_new w.drew _) ((hov.append hnv).mono hle) hs0 hcl (hzl _) (grownCap_ge w (len + n) (cc - c) e')
                                  · intro b hb _
                                    exact Below.heap_alloc _ _ _ hb
                                  · simp
    | _ => exact trivial
end Go.Proofs.YtbhkfifmgbcknaaGreatDoor.Ex
namespace Go.Proofs.YtbhkfifmgbcknaaGreatDoor.Ex
open Go Go.RowKit
noncomputable def xIdxP (size len : Nat) (x i : Opd) : X := fun tm h => match ev tm x with
  | some (.pointer (some ⟨b, o, _⟩)) => match ev tm i with
    | some (.int _ (.ofNat i)) => match Nat.ble (Nat.succ i) len with
      | true => .val (.pointer (some ⟨b, Nat.add o (Nat.mul i size), none⟩)) h
      | false => .fail
    | _ => .fail
  | _ => .fail
theorem does_idxP {P : Program} {ng nt : Nat} {o : Oper} {t e : TypeId} {x y : Operand} {len : Nat} (ho : o.op = .indexAddr t x y) {i : TypeInfo} (hd : P.underlying t = some (.array len e)) (hi : P.info? e = some i) : Does P ng nt o (xIdxP i.size len (cOpd ng x) (cOpd ng y)) := by
  intro tm h E F w a df s hg ht
  unfold xIdxP
  cases hx : ev tm (cOpd ng x) with
  | none => exact trivial
  | some v =>
    have hv := ev_ok hg ht hx
    cases v with
    | pointer p =>
      cases p with
      | none => exact trivial
      | some p =>
        obtain ⟨b, m, sp⟩ := p
        obtain ⟨q, h1, -, h3⟩ := hv.ptr_inv
        dsimp only
        cases hy : ev tm (cOpd ng y) with
        | none => exact trivial
        | some u =>
          have hu := ev_ok hg ht hy
          cases u with
          | int k n =>
            cases n with
            | negSucc n => exact trivial
            | ofNat n =>
              dsimp only
              cases hn : Nat.ble (Nat.succ n) len with
              | false => exact trivial
              | true =>
                have hn' : n < len := Nat.le_of_ble_eq_true hn
                refine Told.same s (VR.ptr h1) ?_
                have hr : (Instr.indexAt t (.pointer (some ⟨q.b, q.o + m, none⟩)) (.int k (Int.ofNat n))).run P w = .ok (.pointer (some ⟨q.b, q.o + (m + n * i.size), none⟩)) w := by
                  unfold Instr.indexAt
                  have hc : (0 : Int) ≤ Int.ofNat n ∧ Int.ofNat n < (len : Int) := by
                    simp only [Int.ofNat_eq_natCast]; omega
                  simp only [asIntOf, Instr.sureAddr, Sem.run_bind, Sem.run_pure, Result.andThen_ok, run_underlying hd]
                  rw [if_pos hc]
                  simp only [Sem.run_bind, Sem.run_pure, Result.andThen_ok, run_size hi, add_at, Int.ofNat_eq_natCast, Int.toNat_natCast, Nat.add_assoc]
                simp only [execOp, ho, h3, hu.int_inv]
                rw [Sem.run_bind, hr]
                rfl
          | _ => exact trivial
    | _ => exact trivial
noncomputable def xIdxV (size len : Nat) (x i : Opd) : X := fun tm h => match ev tm x with
  | some (.agg cs) => match ev tm i with
    | some (.int _ (.ofNat i)) => match Nat.ble (Nat.succ i) len with
      | true => match lget cs.toList (Nat.mul i size) with
        | some v => .val v h
        | none => .fail
      | false => .fail
    | _ => .fail
  | _ => .fail
theorem does_idxV {P : Program} {ng nt : Nat} {o : Oper} {t e : TypeId} {x y : Operand} {len : Nat} (ho : o.op = .index t x y) {i : TypeInfo} {d : TypeDesc} (hd : P.underlying t = some (.array len e)) (hi : P.info? e = some i) (he : P.underlying e = some d) (ha : aggD d = false) : Does P ng nt o (xIdxV i.size len (cOpd ng x) (cOpd ng y)) := by
  intro tm h E F w a df s hg ht
  unfold xIdxV
  cases hx : ev tm (cOpd ng x) with
  | none => exact trivial
  | some v =>
    have hv := ev_ok hg ht hx
    cases v with
    | agg cs =>
      obtain ⟨cs', ecs, hcs⟩ := hv.agg_inv
      dsimp only
      cases hy : ev tm (cOpd ng y) with
      | none => exact trivial
      | some u =>
        have hu := ev_ok hg ht hy
        cases u with
        | int k n =>
          cases n with
          | negSucc n => exact trivial
          | ofNat n =>
            dsimp only
            cases hn : Nat.ble (Nat.succ n) len with
            | false => exact trivial
            | true =>
              have hn' : n < len := Nat.le_of_ble_eq_true hn
              dsimp only
              cases hl : lget cs.toList (Nat.mul n i.size) with
              | none => exact trivial
              | some q =>
                rw [lget_eq] at hl
                obtain ⟨q', h1, h2⟩ := hcs.at hl
                have h1' : cs'[n * i.size]? = some q' := by rw [← Array.getElem?_toList]; exact h1
                refine Told.same s h2 ?_
                have hA := run_isAgg he w
                rw [ha] at hA
                have hr : (Instr.index t (.agg cs') (.int k (Int.ofNat n))).run P w = .ok q' w := by
                  unfold Instr.index
                  have hc : (0 : Int) ≤ Int.ofNat n ∧ Int.ofNat n < (len : Int) := by
                    simp only [Int.ofNat_eq_natCast]; omega
                  simp only [asIntOf, Sem.run_bind, Sem.run_pure, Result.andThen_ok, run_underlying hd]
                  rw [if_pos hc]
                  simp only [Sem.run_bind, run_size hi, Result.andThen_ok, Int.ofNat_eq_natCast, Int.toNat_natCast]
                  unfold part
                  rw [Sem.run_bind, hA, Result.andThen_ok]
                  simp [h1']
                simp only [execOp, ho, ecs, hu.int_inv]
                rw [Sem.run_bind, hr]
                rfl
        | _ => exact trivial
    | _ => exact trivial
end Go.Proofs.YtbhkfifmgbcknaaGreatDoor.Ex
