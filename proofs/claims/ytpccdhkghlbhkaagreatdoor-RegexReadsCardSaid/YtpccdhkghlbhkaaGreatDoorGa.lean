/-
  Package regex's reader by contracts: word, begins.
  Package regex's reader by contracts: a set of words between brackets.
  Package regex's reader by contracts: a set of words between brackets, its walk.
  Package regex's reader by contracts: brackets, given what stands between them.
-/
import Derived.Test.YtpccdhkghlbhkaaGreatDoorRxD
import Derived.Test.YtpccdhkghlbhkaaGreatDoorIter
import Derived.Maps.OwnOps
namespace Go.Proofs.YtpccdhkghlbhkaaGreatDoor
open Go.RowKit Go.Extern.Stop Go.Stop Go.Extern

/-- What the reader's word answers. -/
def RWordYes (w : World) (rb : Nat) (s : ByteArray) (k n d : Nat) (t : ByteArray) (e : Ending) (w' : World) : Prop :=
  e = .returned (.tuple #[.string t, .nilIface]) ∧ Rd w' rb s k n d ∧ Keeps (· = rb) w w'
def RWordNo (w : World) (rb : Nat) (c : Int) (a : Nat) (e : Ending) (w' : World) : Prop :=
  ∃ fb, e = .returned (.tuple #[.string ⟨#[]⟩, pf fb]) ∧ FaultAt w' fb c a ∧ Keeps (· = rb) w w'
set_option maxRecDepth 100000 in
set_option maxHeartbeats 2000000 in
theorem rword_yes (s : ByteArray) (k n d rb : Nat) (hs : s.size ≤ 100000) (hk : k ≤ s.size) (hc : wdC s (skp s k) = 0) (w : World) (hr : Rd w rb s k n d) :
    Calls Tryz.prog 92 #[.pointer (some ⟨rb, 0, none⟩)] w (RWordYes w rb s (wdK s (skp s k)) n d (s.extract (skp s k) (wdK s (skp s k)))) := by
  have HS := Lib.hid (fun W => skip_any s k hs hk W)
  have HW : Hid (∀ W, Calls Tryz.prog 88 #[.agg #[.string s, .int .i64 (skp s k)]] W (WordYes W s (wdK s (skp s k)) (s.extract (skp s k) (wdK s (skp s k))))) := Lib.hid fun W =>
    (readWord_any s (skp s k) hs (skp_le hk).2 W).mono (by
      rintro e w' (⟨-, h⟩ | ⟨h, -⟩)
      · exact h
      · exact absurd hc h)
  have HR := Lib.hid hr
  obtain ⟨c0, c1, -, -⟩ := hr.cells
  generalize wdK s (skp s k) = K at *
  unfold skp at *
  generalize runTo isBl s k = j at *
  generalize s.extract j K = t at *
  clear hr hc
  go_enter Tryz.func92, Tryz.ntmps92
  go_wp2_with fail
  refine (HS.out _).mono ?_
  rintro e w1 ⟨rfl, b1⟩
  clear c0 c1
  go_wp2_with fail
  refine (HW.out _).mono ?_
  rintro e w2 ⟨rfl, b2⟩
  have H3 := Lib.hid (((HR.out.step b1).step b2).step (sbelow_new w2 (.cells #[.string s, .int .i64 K] 42)))
  have HB := Lib.hid ((b1.trans (b2.mono b1.size)).trans ((sbelow_new w2 (.cells #[.string s, .int .i64 K] 42)).mono (b1.trans (b2.mono b1.size)).size))
  obtain ⟨c0, c1, -, -⟩ := H3.out.cells
  have f0 := H3.out.fz 0
  have f1 := H3.out.fz 1
  clear b1 b2
  go_wp2_with fail
  go_ret2
  exact ⟨rfl, H3.out.putc K, (Keeps.of_below HB.out).trans (keeps_putc _ rb _ _)⟩
set_option maxRecDepth 100000 in
set_option maxHeartbeats 2000000 in
theorem rword_no (s : ByteArray) (k n d rb : Nat) (hs : s.size ≤ 100000) (hk : k ≤ s.size) (hc : wdC s (skp s k) ≠ 0) (w : World) (hr : Rd w rb s k n d) :
    Calls Tryz.prog 92 #[.pointer (some ⟨rb, 0, none⟩)] w (RWordNo w rb (wdC s (skp s k)) (wdA s (skp s k))) := by
  have HS := Lib.hid (fun W => skip_any s k hs hk W)
  have HW : Hid (∀ W, Calls Tryz.prog 88 #[.agg #[.string s, .int .i64 (skp s k)]] W (WordNo W s (skp s k) (wdC s (skp s k)) (wdA s (skp s k)))) := Lib.hid fun W =>
    (readWord_any s (skp s k) hs (skp_le hk).2 W).mono (by
      rintro e w' (⟨h, -⟩ | ⟨-, h⟩)
      · exact absurd h hc
      · exact h)
  obtain ⟨c0, c1, -, -⟩ := hr.cells
  generalize wdC s (skp s k) = cc at *
  generalize wdA s (skp s k) = aa at *
  unfold skp at *
  generalize runTo isBl s k = j at *
  clear hr hc
  go_enter Tryz.func92, Tryz.ntmps92
  go_wp2_with fail
  refine (HS.out _).mono ?_
  rintro e w1 ⟨rfl, b1⟩
  clear c0 c1
  go_wp2_with fail
  refine (HW.out _).mono ?_
  rintro e w2 ⟨fb, rfl, hf, b2⟩
  have HF := Lib.hid (hf.keep (sbelow_new w2 (.cells #[.string s, .int .i64 j] 42)))
  have HB := Lib.hid ((b1.trans (b2.mono b1.size)).trans ((sbelow_new w2 (.cells #[.string s, .int .i64 j] 42)).mono (b1.trans (b2.mono b1.size)).size))
  clear b1 b2 hf
  unfold pf
  go_wp2_with fail
  go_ret2
  exact ⟨fb, rfl, HF.out, Keeps.of_below HB.out⟩

/-! ### begins -/
theorem nameC_let {s : ByteArray} {k : Nat} (hl : isLet (byteI s k) = true) : nameC s k = 0 ∨ nameC s k = 5 := by
  unfold nameC
  rw [if_pos hl]
  split
  · exact .inl rfl
  · exact .inr rfl
theorem nameC_not {s : ByteArray} {k : Nat} (hl : isLet (byteI s k) = false) : nameC s k = 3 ∨ nameC s k = 4 := by
  unfold nameC
  rw [if_neg (by rw [hl]; decide)]
  unfold missC
  split
  · exact .inr rfl
  · exact .inl rfl
theorem ois_fault {w : World} {fb : Nat} {c a d : Int} (h : FaultAt w fb c a) (h0 : c ≠ 0) :
    Calls Tryz.prog 81 #[pf fb, .int .i64 d] w fun e w' => e = .returned (.bool (decide (c = d))) ∧ w' = w := by
  rcases h with ⟨h, -⟩ | ⟨-, fb', hc⟩
  · exact absurd h h0
  · exact ois_any _ _ c d rfl [] _ w hc
set_option maxRecDepth 100000 in
set_option maxHeartbeats 2000000 in
theorem begins_any (s : ByteArray) (j : Nat) (hs : s.size ≤ 100000) (hj : j ≤ s.size) (w : World) :
    Calls Tryz.prog 63 #[.agg #[.string s, .int .i64 j]] w fun e w' => e = .returned (.bool (begB s j)) ∧ Below w.heap.size w w' := by
  have HP := Lib.hid (fun W => peek_any s j hj W)
  have HN := Lib.hid (fun W => name_any s j hs hj W)
  have hB0 := sbelow_new w (.cells #[.string s, .int .i64 j] 42)
  have hS0 := ScanAt.new w s j 42
  unfold begB
  have HB0 := Lib.hid hB0
  have HS0 := Lib.hid hS0
  by_cases hsgn : byteI s j = 46 ∨ byteI s j = 91 ∨ byteI s j = 40 ∨ byteI s j = 36
  · have he : (decide (byteI s j = 46) || (decide (byteI s j = 91) || (decide (byteI s j = 40) || (decide (byteI s j = 36) || isLet (byteI s j))))) = true := by
      rcases hsgn with h | h | h | h <;> simp [h]
    rw [he]
    clear he hB0 hS0
    generalize byteI s j = x at *
    rcases hsgn with rfl | rfl | rfl | rfl
    all_goals
      go_enter Tryz.func63, Tryz.ntmps63
      go_wp2_with fail
      refine (HP.out _).mono ?_
      rintro e w1 ⟨rfl, b1⟩
      have HB1 := Lib.hid (HB0.out.trans (b1.mono HB0.out.size))
      clear b1
      go_wp2_with fail
      go_ret
      exact ⟨rfl, HB1.out⟩
  · have g1 : (byteI s j == 46) = false := beq_eq_false_iff_ne.2 (fun h => hsgn (.inl h))
    have g2 : (byteI s j == 91) = false := beq_eq_false_iff_ne.2 (fun h => hsgn (.inr (.inl h)))
    have g3 : (byteI s j == 40) = false := beq_eq_false_iff_ne.2 (fun h => hsgn (.inr (.inr (.inl h))))
    have g4 : (byteI s j == 36) = false := beq_eq_false_iff_ne.2 (fun h => hsgn (.inr (.inr (.inr h))))
    have he : (decide (byteI s j = 46) || (decide (byteI s j = 91) || (decide (byteI s j = 40) || (decide (byteI s j = 36) || isLet (byteI s j))))) = isLet (byteI s j) := by
      rw [decide_eq_false (fun h => hsgn (.inl h)), decide_eq_false (fun h => hsgn (.inr (.inl h))), decide_eq_false (fun h => hsgn (.inr (.inr (.inl h)))), decide_eq_false (fun h => hsgn (.inr (.inr (.inr h))))]
      simp
    rw [he]
    have HL1 := Lib.hid (nameC_let (s := s) (k := j))
    have HL2 := Lib.hid (nameC_not (s := s) (k := j))
    clear he hsgn hB0 hS0
    generalize hlt : isLet (byteI s j) = lt at *
    clear hlt
    generalize byteI s j = x at *
    go_enter Tryz.func63, Tryz.ntmps63
    go_wp2_with fail
    refine (HP.out _).mono ?_
    rintro e w1 ⟨rfl, b1⟩
    have HB1 := Lib.hid (HB0.out.trans (b1.mono HB0.out.size))
    obtain ⟨-, c0, c1, -⟩ := HS0.out.step b1
    clear b1
    go_wp2_with fail
    refine (HN.out _).mono ?_
    intro e w2 hN
    rcases name_cases hN with ⟨hc, rfl, b2⟩ | ⟨hc, hk, fb, rfl, hf, b2⟩
    · have bn := sbelow_new w2 (.cells #[.string s, .int .i64 (nameK s j)] 42)
      have HB2 := Lib.hid (HB1.out.trans ((b2.trans (bn.mono b2.size)).mono HB1.out.size))
      have hl : lt = true := by
        cases lt with
        | true => rfl
        | false => rcases HL2.out rfl with h | h <;> rw [hc] at h <;> exact absurd h (by decide)
      subst hl
      clear hN hc b2 bn c0 c1
      go_wp2_with fail
      refine (ois_nil 3 _).mono ?_
      rintro e w3 ⟨rfl, rfl⟩
      go_wp2_with fail
      refine (ois_nil 4 _).mono ?_
      rintro e w3 ⟨rfl, rfl⟩
      go_wp2_with fail
      go_ret
      exact ⟨rfl, HB2.out⟩
    · have bn := sbelow_new w2 (.cells #[.string s, .int .i64 j] 42)
      have HB2 := Lib.hid (HB1.out.trans ((b2.trans (bn.mono b2.size)).mono HB1.out.size))
      have HO := Lib.hid (fun dd => ois_fault (d := dd) (hf.keep bn) hc)
      clear hN b2 bn c0 c1 hf hk
      cases lt with
      | true =>
        have h5 : nameC s j = 5 := by
          rcases HL1.out rfl with h | h
          · exact absurd h hc
          · exact h
        rw [h5] at HO
        clear h5 hc
        unfold pf at *
        go_wp2_with fail
        refine (HO.out 3).mono ?_
        rintro e w3 ⟨rfl, rfl⟩
        go_wp2_with fail
        refine (HO.out 4).mono ?_
        rintro e w3 ⟨rfl, rfl⟩
        go_wp2_with fail
        go_ret
        exact ⟨rfl, HB2.out⟩
      | false =>
        rcases HL2.out rfl with h | h
        · rw [h] at HO
          clear h hc
          unfold pf at *
          go_wp2_with fail
          refine (HO.out 3).mono ?_
          rintro e w3 ⟨rfl, rfl⟩
          go_wp2_with fail
          go_ret
          exact ⟨rfl, HB2.out⟩
        · rw [h] at HO
          clear h hc
          unfold pf at *
          go_wp2_with fail
          refine (HO.out 3).mono ?_
          rintro e w3 ⟨rfl, rfl⟩
          go_wp2_with fail
          refine (HO.out 4).mono ?_
          rintro e w3 ⟨rfl, rfl⟩
          go_wp2_with fail
          go_ret
          exact ⟨rfl, HB2.out⟩
end Go.Proofs.YtpccdhkghlbhkaaGreatDoor

namespace Go.Proofs.YtpccdhkghlbhkaaGreatDoor
open Go.RowKit Go.Extern.Stop Go.Stop Go.Extern Go.WideMaps

/-! ### Faults beside an expression's cells -/
theorem FaultAt.ne {ty : TypeId} {w : World} {fb b : Nat} {c a : Int} {c0 c2 c3 : Value} {t : Bool} (h : FaultAt w fb c a) (h0 : c ≠ 0) (hq : QuadAt ty w b c0 (.bool t) c2 c3) : fb ≠ b := by
  rcases h with ⟨h, -⟩ | ⟨-, fb', e, hlt, h1, h2⟩
  · exact absurd h h0
  · unfold pf at e
    simp only [Value.iface.injEq, Value.pointer.injEq, Option.some.injEq, Addr.mk.injEq, true_and, and_true] at e
    subst e
    rintro rfl
    rw [hq.cells.2.1] at h2
    cases h2
theorem FaultAt.far {w : World} {fb : Nat} {c a : Int} (h : FaultAt w fb c a) (h0 : c ≠ 0) {q : Addr} (hq : fb ≠ q.block) (u : Value) : FaultAt (w.setCell q u) fb c a := by
  rcases h with ⟨h, -⟩ | ⟨-, fb', e, hlt, h1, h2⟩
  · exact absurd h h0
  · have e' := e
    unfold pf at e
    simp only [Value.iface.injEq, Value.pointer.injEq, Option.some.injEq, Addr.mk.injEq, true_and, and_true] at e
    subst e
    refine .inr ⟨h0, fb, e', by rw [World.size_setCell]; exact hlt, ?_, ?_⟩
    · rw [World.cell?_setCell_other _ _ _ _ (by rintro rfl; exact hq rfl)]; exact h1
    · rw [World.cell?_setCell_other _ _ _ _ (by rintro rfl; exact hq rfl)]; exact h2
theorem FaultAt.setq {ty : TypeId} {w : World} {fb b : Nat} {c a : Int} {c0 c2 c3 : Value} {t : Bool} (h : FaultAt w fb c a) (h0 : c ≠ 0) (hq : QuadAt ty w b c0 (.bool t) c2 c3) (d0 d1 d2 d3 : Value) : FaultAt (set4 w b 0 d0 d1 d2 d3) fb c a := by
  have hne := h.ne h0 hq
  unfold set4
  exact (((h.far h0 (q := ⟨b, 0, none⟩) hne d0).far h0 (q := ⟨b, 0 + 1, none⟩) hne d1).far h0 (q := ⟨b, 0 + 2, none⟩) hne d2).far h0 (q := ⟨b, 0 + 3, none⟩) hne d3

/-- What the reader answers that reads an expression. -/
def XrOut (w : World) (rb : Nat) (s : ByteArray) (d : Nat) : RO Rx → Ending → World → Prop
  | .er c a, e, w' => ∃ (fb : Nat) (k : Int) (t : Bool) (a1 : Option Addr) (l1 c1 : Nat) (a2 : Option Addr) (l2 c2 : Nat), e = .returned (.tuple #[.agg #[.int .i64 k, .bool t, .slice a1 l1 c1, .slice a2 l2 c2], pf fb]) ∧ FaultAt w' fb c a ∧ Keeps (· = rb) w w'
  | .ok k' n' x, e, w' => ∃ (k : Int) (t : Bool) (a1 : Option Addr) (l1 c1 : Nat) (a2 : Option Addr) (l2 c2 : Nat), e = .returned (.tuple #[.agg #[.int .i64 k, .bool t, .slice a1 l1 c1, .slice a2 l2 c2], .nilIface]) ∧ ExC (fun q => w.heap.size ≤ q) w' [.int .i64 k, .bool t, .slice a1 l1 c1, .slice a2 l2 c2] x ∧ Rd w' rb s k' n' d ∧ Keeps (· = rb) w w'

/-! ### Words seen -/
theorem lawStrX : Maps.Keyed Tryz.prog 9 := Maps.string_keyed Tryz.underlying9
theorem zeroIntX (w : World) : (zeroValue 3).run Tryz.prog w = .ok (.int .i64 0) w := by kernel_rfl
/-- A map of so many updates at most that has just these words, each once. -/
def SeenAt (w : World) (mb n : Nat) (seen : List ByteArray) : Prop :=
  ∃ D : DataW Unit, w.ownsMap Tryz.prog 9 (plainElem Tryz.prog 3) mb n D ∧ seen.Nodup ∧ (∀ t : List UInt8, Maps.has D (.string t) = (seen.map (fun b => b.data.toList)).contains t) ∧
    ∀ t : List UInt8, D.atKey (.string t) (.lit (.int .i64 0)) = .lit (.int .i64 (if (seen.map (fun b => b.data.toList)).contains t then 1 else 0))
theorem SeenAt.lt {w : World} {mb n : Nat} {seen : List ByteArray} (h : SeenAt w mb n seen) : mb < w.heap.size := by obtain ⟨D, h, -⟩ := h; exact h.lt
theorem SeenAt.keeps {D : Nat → Prop} {w w' : World} {mb n : Nat} {seen : List ByteArray} (h : SeenAt w mb n seen) (hk : Keeps D w w') (hD : ¬ D mb) : SeenAt w' mb n seen := by
  have hlt := h.lt
  obtain ⟨M, ⟨es, clock, hb, r⟩, hh⟩ := h
  exact ⟨M, ⟨es, clock, by rw [hk.block mb hlt hD]; exact hb, r⟩, hh⟩
theorem SeenAt.new (w : World) : SeenAt (w.alloc (.map #[] 0)) w.heap.size 0 [] := ⟨_, World.ownsMap_made w _ _ _, List.nodup_nil, fun _ => rfl, fun _ => rfl⟩
theorem toList_injX {a b : ByteArray} (h : a.data.toList = b.data.toList) : a = b := ByteArray.ext (Array.ext' h)
/-- One word more. -/
theorem SeenAt.push {w w' : World} {mb n : Nat} {seen : List ByteArray} {D : DataW Unit} {key : ByteArray} (hown : w.ownsMap Tryz.prog 9 (plainElem Tryz.prog 3) mb n D) (hnd : seen.Nodup)
    (hh : ∀ t : List UInt8, Maps.has D (.string t) = (seen.map (fun b => b.data.toList)).contains t) (ha : ∀ t : List UInt8, D.atKey (.string t) (.lit (.int .i64 0)) = .lit (.int .i64 (if (seen.map (fun b => b.data.toList)).contains t then 1 else 0)))
    (hnew : (seen.map (fun b => b.data.toList)).contains key.data.toList = false) (hown' : w'.ownsMap Tryz.prog 9 (plainElem Tryz.prog 3) mb (n + 1) (D.put (.string key.data.toList) (.lit (.int .i64 1)))) : SeenAt w' mb (n + 1) (seen ++ [key]) := by
  have hIs : Maps.IsMap D := by obtain ⟨es, hD, _⟩ := hown.entries lawStrX; exact ⟨es, hD⟩
  have hc : ∀ t : List UInt8, ((seen ++ [key]).map (fun b => b.data.toList)).contains t = ((seen.map (fun b => b.data.toList)).contains t || decide (t = key.data.toList)) := fun t => by
    rw [Bool.eq_iff_iff]
    simp
  have hnd2 : (seen ++ [key]).Nodup := by
    refine List.nodup_append.2 ⟨hnd, by simp, fun x hx y hy e => ?_⟩
    simp at hy
    subst hy; subst e
    have : (seen.map (fun b => b.data.toList)).contains x.data.toList = true := List.contains_iff_mem.2 (List.mem_map.2 ⟨x, hx, rfl⟩)
    rw [hnew] at this
    cases this
  refine ⟨_, hown', hnd2, fun t => ?_, fun t => ?_⟩
  · rw [hc]
    by_cases e : t = key.data.toList
    · subst e
      rw [Maps.has_put_same hIs (k := .string key.data.toList) trivial, decide_eq_true rfl, Bool.or_true]
    · rw [Maps.has_put_other (by intro h; injection h with h; exact e h), hh t, decide_eq_false e, Bool.or_false]
  · rw [hc]
    by_cases e : t = key.data.toList
    · subst e
      rw [Maps.atKey_put_same hIs (k := .string key.data.toList) trivial, decide_eq_true rfl, Bool.or_true]
      rfl
    · rw [Maps.atKey_put_other (by intro h; injection h with h; exact e h), ha t, decide_eq_false e, Bool.or_false]
/-- The words, sorted. -/
theorem seen_perm {w : World} {mb n : Nat} {seen : List ByteArray} {D : DataW Unit} (hown : w.ownsMap Tryz.prog 9 (plainElem Tryz.prog 3) mb n D) (hnd : seen.Nodup)
    (hh : ∀ t : List UInt8, Maps.has D (.string t) = (seen.map (fun b => b.data.toList)).contains t) : (seen.map (fun b => b.data.toList)).Perm (strKeys D) := by
  have hC : Collected D (fun _ => false) (seen.map (fun b => b.data.toList)) := by
    refine ⟨?_, fun x => ?_⟩
    · exact List.pairwise_map.2 (hnd.imp fun hne e => hne (toList_injX e))
    · rw [hh x]; simp
  exact hC.perm hown lawStrX Tryz.underlying9 (fun _ => rfl)
theorem srt_enc {ss : List (List UInt8)} {seen : List ByteArray} (h : ss.Perm (seen.map (fun b => b.data.toList))) : (ss.mergeSort (fun x y => decide (x ≤ y))).map encStr = (srt seen).map Value.string ∧ ss.length = (srt seen).length := by
  have e := mergeSort_srt h
  constructor
  · rw [e]
    unfold srt
    rw [List.map_map]
    rfl
  · have h1 := congrArg List.length e
    rw [List.length_mergeSort] at h1
    rw [h1]
    unfold srt
    simp
end Go.Proofs.YtpccdhkghlbhkaaGreatDoor

namespace Go.Proofs.YtpccdhkghlbhkaaGreatDoor
open Go.RowKit Go.Extern.Stop Go.Stop Go.Extern Go.WideMaps

/-- A set of words, behind the [. -/
def chX (s : ByteArray) (k n : Nat) : RO Rx :=
  match chR s (s.size + 1) (notK s k) [] with
  | .er c a => .er c a
  | .ok k' _ ws => .ok k' n (.mk 1 (decide (byteI s (skp s k) = 94)) (srt ws) [])
/-- Its end. -/
def chEnd (s : ByteArray) (k : Nat) (seen : List ByteArray) : RO (List ByteArray) :=
  if byteI s (skp s k) = 93 then .ok (skp s k + 1) 0 seen else .er (missC s (skp s k)) (skp s k)
theorem chR_er {s : ByteArray} {f k : Nat} {seen : List ByteArray} (h : wdC s (skp s k) ≠ 0) : chR s (f + 1) k seen = .er (wdC s (skp s k)) (wdA s (skp s k)) := by rw [chR, if_pos h]
theorem chR_twice {s : ByteArray} {f k : Nat} {seen : List ByteArray} (h : wdC s (skp s k) = 0) (hin : (seen.map (fun b => b.data.toList)).contains (s.extract (skp s k) (wdK s (skp s k))).data.toList = true) : chR s (f + 1) k seen = .er 10 (skp s k) := by
  rw [chR, if_neg (by rw [h]; decide), if_pos hin]
theorem chR_more {s : ByteArray} {f k : Nat} {seen : List ByteArray} (h : wdC s (skp s k) = 0) (hin : (seen.map (fun b => b.data.toList)).contains (s.extract (skp s k) (wdK s (skp s k))).data.toList = false) (hc : byteI s (skp s (wdK s (skp s k))) = 44) :
    chR s (f + 1) k seen = chR s f (skp s (wdK s (skp s k)) + 1) (seen ++ [s.extract (skp s k) (wdK s (skp s k))]) := by
  rw [chR, if_neg (by rw [h]; decide), if_neg (by rw [hin]; decide), if_pos hc]
theorem chR_last {s : ByteArray} {f k : Nat} {seen : List ByteArray} (h : wdC s (skp s k) = 0) (hin : (seen.map (fun b => b.data.toList)).contains (s.extract (skp s k) (wdK s (skp s k))).data.toList = false) (hc : ¬ byteI s (skp s (wdK s (skp s k))) = 44) :
    chR s (f + 1) k seen = chEnd s (wdK s (skp s k)) (seen ++ [s.extract (skp s k) (wdK s (skp s k))]) := by
  rw [chR, if_neg (by rw [h]; decide), if_neg (by rw [hin]; decide), if_neg hc]
  rfl
theorem wdC_nz {s : ByteArray} {j : Nat} (h : wdC s j ≠ 0) : wdC s j ≠ 0 := h
theorem notK_eq (s : ByteArray) (k : Nat) : notK s k = tkK s k 94 := rfl

/-- On the way through the words. -/
structure ChSt (w0 : World) (rb : Nat) (s : ByteArray) (k n d : Nat) (neg : Bool) (xb mb m : Nat) (seen : List ByteArray) (w : World) : Prop where
  rd : Rd w rb s k n d
  res : QuadAt 26 w w0.heap.size (.int .i64 0) (.bool false) (.slice none 0 0) (.slice none 0 0)
  x : QuadAt 26 w xb (.int .i64 1) (.bool neg) (.slice none 0 0) (.slice none 0 0)
  seen : SeenAt w mb m seen
  keep : Keeps (· = rb) w0 w
  ord : rb < w0.heap.size ∧ w0.heap.size < xb ∧ xb < mb
section
variable {w0 : World} {rb : Nat} {s : ByteArray} {k n d k' : Nat} {neg : Bool} {xb mb m m' : Nat} {seen seen' : List ByteArray} {w w' : World}
theorem ChSt.go (h : ChSt w0 rb s k n d neg xb mb m seen w) (hr : Rd w' rb s k' n d) (hk : Keeps (· = rb) w w') : ChSt w0 rb s k' n d neg xb mb m seen w' :=
  ⟨hr, h.res.keeps hk (by have := h.ord; omega), h.x.keeps hk (by have := h.ord; omega), h.seen.keeps hk (by have := h.ord; omega), h.keep.trans hk, h.ord⟩
theorem ChSt.step (h : ChSt w0 rb s k n d neg xb mb m seen w) (hb : Below w.heap.size w w') : ChSt w0 rb s k n d neg xb mb m seen w' := h.go (h.rd.step hb) (.of_below hb)
/-- The map has changed. -/
theorem ChSt.map (h : ChSt w0 rb s k n d neg xb mb m seen w) (hg : w.grownBy w' (some mb)) (hs : SeenAt w' mb m' seen') : ChSt w0 rb s k n d neg xb mb m' seen' w' := by
  have hk : Keeps (· = mb) w w' := Keeps.of_grown hg (fun q e => by injection e with e; exact e.symm)
  have ho := h.ord
  refine ⟨QuadAt.keeps h.rd hk (by omega), h.res.keeps hk (by omega), h.x.keeps hk (by omega), hs, ?_, ho⟩
  have hk2 : Keeps (fun q => q = rb ∨ w0.heap.size ≤ q) w0 w' := (h.keep.mono (fun q e => .inl e)).trans (hk.mono (fun q e => .inr (by show w0.heap.size ≤ q; omega)))
  exact ⟨hk2.os, hk2.tape, hk2.output, hk2.size, fun q hq hn => hk2.block q hq (fun e => e.elim hn (fun e => by omega))⟩
end
/-- A result's four cells are stored. -/
theorem res_keeps {w0 w : World} {rb : Nat} (h : Keeps (· = rb) w0 w) (d0 d1 d2 d3 : Value) : Keeps (· = rb) w0 (set4 w w0.heap.size 0 d0 d1 d2 d3) := by
  unfold set4
  exact (((h.setCell (q := ⟨w0.heap.size, 0, none⟩) (.inl (Nat.le_refl _)) d0).setCell (q := ⟨w0.heap.size, 0 + 1, none⟩) (.inl (Nat.le_refl _)) d1).setCell (q := ⟨w0.heap.size, 0 + 2, none⟩) (.inl (Nat.le_refl _)) d2).setCell (q := ⟨w0.heap.size, 0 + 3, none⟩) (.inl (Nat.le_refl _)) d3

theorem ChSt.grown {w0 : World} {rb : Nat} {s : ByteArray} {k n d : Nat} {neg : Bool} {xb mb m : Nat} {seen : List ByteArray} {w w' : World} (h : ChSt w0 rb s k n d neg xb mb m seen w) (hg : w.grownBy w' (some mb)) :
    QuadAt 26 w' w0.heap.size (.int .i64 0) (.bool false) (.slice none 0 0) (.slice none 0 0) ∧ Keeps (· = rb) w0 w' := by
  have hk : Keeps (· = mb) w w' := Keeps.of_grown hg (fun q e => by injection e with e; exact e.symm)
  have ho := h.ord
  have hk2 : Keeps (fun q => q = rb ∨ w0.heap.size ≤ q) w0 w' := (h.keep.mono (fun q e => .inl e)).trans (hk.mono (fun q e => .inr (by show w0.heap.size ≤ q; omega)))
  exact ⟨h.res.keeps hk (by omega), ⟨hk2.os, hk2.tape, hk2.output, hk2.size, fun q hq hn => hk2.block q hq (fun e => e.elim hn (fun e => by omega))⟩⟩
theorem val1 (v : Int) (h : 0 ≤ v ∧ v ≤ 10) : plainElem (H := Unit) Tryz.prog 3 (.int .i64 v) = some (.lit (.int .i64 v), []) := by
  unfold plainElem
  rw [Tryz.underlying3]
  have hw : (Lit.int .i64 v).wf = true := by
    simp [Lit.wf]
    have e : IntKind.i64.min = -9223372036854775808 := rfl
    have e' : IntKind.i64.max = 9223372036854775807 := rfl
    omega
  simp [hw]


set_option maxRecDepth 100000 in
set_option maxHeartbeats 8000000 in
theorem choice_any (s : ByteArray) (k n d rb : Nat) (hs : s.size ≤ 100000) (hk : k ≤ s.size) (w : World) (hr : Rd w rb s k n d) :
    Calls Tryz.prog 91 #[.pointer (some ⟨rb, 0, none⟩)] w (XrOut w rb s d (chX s k n)) := by
  have hmm := @run_makeMap Tryz.prog
  have hq1 := quad_new w 26 (.int .i64 0) (.bool false) (.slice none 0 0) (.slice none 0 0)
  have hb1 := sbelow_new w (.cells #[.int .i64 0, .bool false, .slice none 0 0, .slice none 0 0] 26)
  have hr1 := hr.step hb1
  have hz1 : (w.alloc (.cells #[.int .i64 0, .bool false, .slice none 0 0, .slice none 0 0] 26)).heap.size = w.heap.size + 1 := World.size_alloc _ _
  have HRB := Lib.hid hr.lt
  generalize hw1 : w.alloc (.cells #[.int .i64 0, .bool false, .slice none 0 0, .slice none 0 0] 26) = w1 at *
  have HT := Lib.hid (took_any s k n d rb 94 (by decide) hs hk w1 hr1)
  have hk2 : tkK s k 94 ≤ s.size := tkK_le hk (by decide)
  rw [show ((94 : UInt8).toNat : Int) = 94 from rfl] at HT
  have HTOT : Hid (∀ o, chR s (s.size + 1) (tkK s k 94) [] = o → chX s k n = (match o with | .er c a => .er c a | .ok k' _ ws => .ok k' n (.mk 1 (decide (byteI s (skp s k) = 94)) (srt ws) []))) := Lib.hid (fun o h => by unfold chX; rw [notK_eq, h])
  generalize decide (byteI s (skp s k) = 94) = neg at *
  generalize hkk : tkK s k 94 = k1 at *
  have HQ1 := Lib.hid hq1
  have HB1 := Lib.hid hb1
  have HZ1 := Lib.hid hz1
  clear hq1 hb1 hr1 hr hkk hk
  go_enter Tryz.func91, Tryz.ntmps91
  go_wp2_with fail
  refine HT.out.mono ?_
  rintro e w2 ⟨rfl, hr2, hkp2⟩
  have hb3 := sbelow_new w2 (.cells #[.int .i64 1, .bool neg, .slice none 0 0, .slice none 0 0] 26)
  have hq3 := quad_new w2 26 (.int .i64 1) (.bool neg) (.slice none 0 0) (.slice none 0 0)
  have hb4 := sbelow_new (w2.alloc (.cells #[.int .i64 1, .bool neg, .slice none 0 0, .slice none 0 0] 26)) (.map #[] 0)
  have hm4 := SeenAt.new (w2.alloc (.cells #[.int .i64 1, .bool neg, .slice none 0 0, .slice none 0 0] 26))
  rw [World.size_alloc] at hm4
  have hz2 : w.heap.size + 1 ≤ w2.heap.size := by have := hkp2.size; have := HZ1.out; omega
  have HC : Hid (ChSt w rb s k1 n d neg w2.heap.size (w2.heap.size + 1) 0 [] ((w2.alloc (.cells #[.int .i64 1, .bool neg, .slice none 0 0, .slice none 0 0] 26)).alloc (.map #[] 0))) := Lib.hid
    ⟨(hr2.step hb3).step hb4, ((HQ1.out.keeps hkp2 (by have := HRB.out; omega)).step hb3).step hb4, hq3.step hb4, hm4, (((Keeps.of_below HB1.out).trans hkp2).next hb3).next hb4, ⟨HRB.out, by omega, by omega⟩⟩
  clear hb3 hq3 hb4 hm4 hr2 hkp2
  go_wp2_with fail
  generalize (w2.alloc (.cells #[.int .i64 1, .bool neg, .slice none 0 0, .slice none 0 0] 26)).alloc (.map #[] 0) = w4 at *
  generalize w2.heap.size = xb at *
  go_loopg [6] (s.size + 2) (fun g v wr => (∃ f kk m seen, v = .bool true ∧ g = f + 1 ∧ s.size < kk + f ∧ kk ≤ s.size ∧ m + f = s.size + 1 ∧ chR s f kk seen = chR s (s.size + 1) k1 [] ∧ ChSt w rb s kk n d neg xb (xb + 1) m seen wr) ∨
    (∃ kk m seen, v = .bool false ∧ g = 0 ∧ kk ≤ s.size ∧ m ≤ s.size + 1 ∧ chEnd s kk seen = chR s (s.size + 1) k1 [] ∧ ChSt w rb s kk n d neg xb (xb + 1) m seen wr))
  case atStart => exact .inl ⟨s.size + 1, k1, 0, [], rfl, rfl, by omega, hk2, by omega, rfl, HC.out⟩
  case round =>
    rcases hrel with ⟨f, kk, m, seen, rfl, hg, hf, hkk, hmf, htot, hst⟩ | ⟨kk, m, seen, rfl, hg, hkk, hmf, htot, hst⟩
    · obtain ⟨f, rfl⟩ : ∃ f', f = f' + 1 := ⟨f - 1, by omega⟩
      have HST := Lib.hid hst
      have HTT := Lib.hid htot
      have HG := Lib.hid hg
      have HM := Lib.hid hmf
      have HF := Lib.hid hf
      have HS : Hid (∀ W, Calls Tryz.prog 20 #[.agg #[.string s, .int .i64 kk]] W fun e w' => e = .returned (.agg #[.string s, .int .i64 (skp s kk)]) ∧ Below W.heap.size W w') := Lib.hid (fun W => skip_any s kk hs hkk W)
      obtain ⟨c0, c1, -, -⟩ := hst.rd.cells
      have hj := (skp_le hkk).2
      have hjk := (skp_le hkk).1
      have hwk := wdK_le hj
      clear hst htot hg hmf hf
      go_wp2_with fail
      refine (HS.out _).mono ?_
      rintro e w5 ⟨rfl, b5⟩
      have HST5 := Lib.hid (HST.out.step b5)
      clear b5 c0 c1 HST
      go_wp2_with fail
      refine (at_any s _ _).mono ?_
      rintro e w6 ⟨rfl, b6⟩
      have HST6 := Lib.hid (HST5.out.step b6)
      clear b6 HST5
      go_wp2_with fail
      by_cases hc : wdC s (skp s kk) = 0
      · refine (rword_yes s kk n d rb hs hkk hc _ HST6.out.rd).mono ?_
        rintro e w7 ⟨rfl, hr7, hk7⟩
        have HST7 := Lib.hid (HST6.out.go hr7 hk7)
        clear hr7 hk7 HST6
        have hkey : keyOf Tryz.prog 9 (.string (s.extract (skp s kk) (wdK s (skp s kk)))) = some (.string (s.extract (skp s kk) (wdK s (skp s kk))).data.toList) := keyOf_string_mk Tryz.underlying9 (by
          unfold maxLen
          simp
          omega)
        have HC1 := Lib.hid hc
        have HWK := Lib.hid hwk
        have HJK := Lib.hid hjk
        have HMI := Lib.hid (chR_more (f := f) (seen := seen) hc)
        have HLA := Lib.hid (chR_last (f := f) (seen := seen) hc)
        have HTW := Lib.hid (chR_twice (f := f) (seen := seen) hc)
        obtain ⟨D, hown, hnd, hh, ha⟩ := HST7.out.seen
        have HND := Lib.hid hnd
        have HH := Lib.hid hh
        have HA := Lib.hid ha
        have hm2 : m < 1000000 := by have := HM.out; omega
        have hm3 : m < maxLen := by unfold maxLen; omega
        clear hnd hh ha hc hwk hjk hj hm2
        generalize s.extract (skp s kk) (wdK s (skp s kk)) = t at *
        generalize wdK s (skp s kk) = K at *
        generalize skp s kk = jj at *
        have hat0 := HA.out t.data.toList
        by_cases hin : (seen.map (fun b => b.data.toList)).contains t.data.toList = true
        · rw [if_pos hin] at hat0
          have HE : Hid (chX s k n = .er 10 jj) := Lib.hid (HTOT.out _ (HTT.out.symm.trans (HTW.out hin)))
          have HAT0 := Lib.hid hat0
          have HOWN := Lib.hid hown
          clear hat0 hin HMI HLA HTW
          go_wp2_with (at_lookup; refine wpList_lookup_own_int _ rfl _ _ 143 rfl 9 3 .i64 lawStrX Tryz.underlying143 Tryz.underlying3 (zeroIntX _) (xb + 1) m _ rfl hown _ _ rfl hkey ?_)
          intro c hat hwc
          have hc1 : c = 1 := by
            rw [HAT0.out] at hat
            simp only [DataW.lit.injEq, Lit.int.injEq, true_and] at hat
            exact hat.symm
          subst hc1
          clear hat hwc
          go_wp2_with (at_mapUpdate; refine wpList_mapUpdate_own _ rfl _ _ _ 143 rfl 9 3 lawStrX Tryz.underlying143 (plainElem Tryz.prog 3) (xb + 1) m _ rfl hown hm3 _ _ _ rfl rfl hkey (.lit (.int .i64 2)) [] (val1 2 (by decide)) ?_)
          intro w8 hown8 hgrow8
          have hgr := HST7.out.grown hgrow8
          have HR8 := Lib.hid hgr.1
          have HK8 := Lib.hid hgr.2
          have HIS : Hid (Maps.IsMap D) := Lib.hid (by obtain ⟨es, hD, _⟩ := HOWN.out.entries lawStrX; exact ⟨es, hD⟩)
          clear hgr hgrow8 hown
          go_wp2_with (at_lookup; refine wpList_lookup_own_int _ rfl _ _ 143 rfl 9 3 .i64 lawStrX Tryz.underlying143 Tryz.underlying3 (zeroIntX _) (xb + 1) (m + 1) _ rfl hown8 _ _ rfl hkey ?_)
          intro c hat hwc
          have hc1 : c = 2 := by
            rw [Maps.atKey_put_same HIS.out (k := .string t.data.toList) trivial] at hat
            simp only [DataW.lit.injEq, Lit.int.injEq, true_and] at hat
            exact hat.symm
          subst hc1
          clear hat hwc hown8
          go_wp2_with fail
          refine (new_err 10 jj (by decide) _).mono ?_
          rintro e w9 ⟨fb, rfl, hf9, b9⟩
          have HF9 := Lib.hid hf9
          have HR9 := Lib.hid (HR8.out.step b9)
          have HK9 := Lib.hid (HK8.out.next b9)
          clear hf9 b9
          obtain ⟨r0, r1, r2, r3⟩ := HR9.out.cells
          have rf0 := HR9.out.fz 0
          have rf1 := HR9.out.fz 1
          have rf2 := HR9.out.fz 2
          have rf3 := HR9.out.fz 3
          unfold pf
          go_wp2_with fail
          obtain ⟨q0, q1, q2, q3⟩ := (HR9.out.set4 (.int .i64 0) (.bool false) (.slice none 0 0) (.slice none 0 0)).cells
          have hfq := HF9.out.setq (by decide) HR9.out (.int .i64 0) (.bool false) (.slice none 0 0) (.slice none 0 0)
          have hkq := res_keeps HK9.out (.int .i64 0) (.bool false) (.slice none 0 0) (.slice none 0 0)
          unfold set4 at q0 q1 q2 q3 hfq hkq
          refine bodyPost_ret (v := .tuple #[.agg #[.int .i64 0, .bool false, .slice none 0 0, .slice none 0 0], pf fb]) (by simp [results, Tryz.results91, go_sem, q0, q1, q2, q3, pf]) rfl ?_
          rw [HE.out]
          exact ⟨fb, _, _, _, _, _, _, _, _, rfl, hfq, hkq⟩
        · have hin2 : (seen.map (fun b => b.data.toList)).contains t.data.toList = false := by simpa using hin
          have HIN := Lib.hid hin2
          rw [hin2] at hat0
          have HAT0 := Lib.hid hat0
          have HOWN := Lib.hid hown
          clear hat0 hin hin2 HTW
          go_wp2_with (at_lookup; refine wpList_lookup_own_int _ rfl _ _ 143 rfl 9 3 .i64 lawStrX Tryz.underlying143 Tryz.underlying3 (zeroIntX _) (xb + 1) m _ rfl hown _ _ rfl hkey ?_)
          intro c hat hwc
          have hc1 : c = 0 := by
            rw [HAT0.out] at hat
            simp at hat
            exact hat.symm
          subst hc1
          clear hat hwc
          go_wp2_with (at_mapUpdate; refine wpList_mapUpdate_own _ rfl _ _ _ 143 rfl 9 3 lawStrX Tryz.underlying143 (plainElem Tryz.prog 3) (xb + 1) m _ rfl hown hm3 _ _ _ rfl rfl hkey (.lit (.int .i64 1)) [] (val1 1 (by decide)) ?_)
          intro w8 hown8 hgrow8
          have HST8 := Lib.hid (HST7.out.map hgrow8 (SeenAt.push hown HND.out HH.out HA.out HIN.out hown8))
          have HIS : Hid (Maps.IsMap D) := Lib.hid (by obtain ⟨es, hD, _⟩ := HOWN.out.entries lawStrX; exact ⟨es, hD⟩)
          clear hgrow8 hown
          go_wp2_with (at_lookup; refine wpList_lookup_own_int _ rfl _ _ 143 rfl 9 3 .i64 lawStrX Tryz.underlying143 Tryz.underlying3 (zeroIntX _) (xb + 1) (m + 1) _ rfl hown8 _ _ rfl hkey ?_)
          intro c hat hwc
          have hc1 : c = 1 := by
            rw [Maps.atKey_put_same HIS.out (k := .string t.data.toList) trivial] at hat
            simp only [DataW.lit.injEq, Lit.int.injEq, true_and] at hat
            exact hat.symm
          subst hc1
          clear hat hwc hown8
          have HTK := Lib.hid (fun W (h : Rd W rb s K n d) => took_any s K n d rb 44 (by decide) hs HWK.out.2 W h)
          rw [show ((44 : UInt8).toNat : Int) = 44 from rfl] at HTK
          go_wp2_with fail
          refine (HTK.out _ HST8.out.rd).mono ?_
          rintro e w9 ⟨rfl, hr9, hk9⟩
          have HST9 := Lib.hid (HST8.out.go hr9 hk9)
          clear hr9 hk9 HST8
          by_cases h44 : byteI s (skp s K) = 44
          · have HMM := Lib.hid (HMI.out HIN.out h44)
            have HLT := Lib.hid (byteI_in h44 (by decide))
            rw [decide_eq_true h44]
            have HST10 : Hid (ChSt w rb s (skp s K + 1) n d neg xb (xb + 1) (m + 1) (seen ++ [t]) w9) := Lib.hid (by have := HST9.out; unfold tkK at this; rwa [if_pos h44] at this)
            clear h44 HLA
            go_wp2_with fail
            go_roundg (f + 1)
            case measure => have := HG.out; omega
            case rel =>
              have h1 := HWK.out
              have h2 := HJK.out
              have h3 := (skp_le h1.2).1
              have h4 := HLT.out
              have h5 := HF.out
              have h6 := HM.out
              exact .inl ⟨f, skp s K + 1, m + 1, seen ++ [t], rfl, rfl, by omega, by omega, by omega, HMM.out.symm.trans HTT.out, HST10.out⟩
          · have HLL := Lib.hid (HLA.out HIN.out h44)
            rw [decide_eq_false h44]
            have HST10 : Hid (ChSt w rb s K n d neg xb (xb + 1) (m + 1) (seen ++ [t]) w9) := Lib.hid (by have := HST9.out; unfold tkK at this; rwa [if_neg h44] at this)
            clear h44 HMI
            go_wp2_with fail
            go_roundg 0
            case measure => have := HG.out; omega
            case rel =>
              have h1 := HWK.out
              have h6 := HM.out
              exact .inr ⟨K, m + 1, seen ++ [t], rfl, rfl, h1.2, by omega, HLL.out.symm.trans HTT.out, HST10.out⟩
      · refine (rword_no s kk n d rb hs hkk hc _ HST6.out.rd).mono ?_
        rintro e w7 ⟨fb, rfl, hf7, hk7⟩
        have HE : Hid (chX s k n = .er (wdC s (skp s kk)) (wdA s (skp s kk))) := Lib.hid (HTOT.out _ (HTT.out.symm.trans (chR_er hc)))
        have HF7 := Lib.hid hf7
        have HR7 := Lib.hid (HST6.out.res.keeps hk7 (by have := HST6.out.ord; omega))
        have HK7 := Lib.hid (HST6.out.keep.trans hk7)
        have HC0 := Lib.hid hc
        generalize wdC s (skp s kk) = cc at *
        generalize wdA s (skp s kk) = aa at *
        clear hf7 hk7 hc
        obtain ⟨r0, r1, r2, r3⟩ := HR7.out.cells
        have rf0 := HR7.out.fz 0
        have rf1 := HR7.out.fz 1
        have rf2 := HR7.out.fz 2
        have rf3 := HR7.out.fz 3
        unfold pf
        go_wp2_with fail
        obtain ⟨q0, q1, q2, q3⟩ := (HR7.out.set4 (.int .i64 0) (.bool false) (.slice none 0 0) (.slice none 0 0)).cells
        have hfq := HF7.out.setq HC0.out HR7.out (.int .i64 0) (.bool false) (.slice none 0 0) (.slice none 0 0)
        have hkq := res_keeps HK7.out (.int .i64 0) (.bool false) (.slice none 0 0) (.slice none 0 0)
        unfold set4 at q0 q1 q2 q3 hfq hkq
        refine bodyPost_ret (v := .tuple #[.agg #[.int .i64 0, .bool false, .slice none 0 0, .slice none 0 0], pf fb]) (by simp [results, Tryz.results91, go_sem, q0, q1, q2, q3, pf]) rfl ?_
        rw [HE.out]
        exact ⟨fb, _, _, _, _, _, _, _, _, rfl, hfq, hkq⟩
    · have HST := Lib.hid hst
      have HTT := Lib.hid htot
      obtain ⟨D, hown, hnd, hh, -⟩ := hst.seen
      have hsz : Maps.size D ≤ m := hown.size_le
      have HKY := Lib.hid (fun W => (callsIn_wide (n := 5)).1 (Tryz.maps_Keys_101 (some (xb + 1)) W))
      have HSO := Lib.hid ((callsIn_wide (n := 5)).1 (Tryz.slices_Sorted_keys_100_101 (xb + 1) m D (plainElem Tryz.prog 3) wr hown (by unfold maxLen; omega) (by omega)))
      have HPM := Lib.hid (seen_perm hown hnd hh)
      clear hst htot hown hnd hh hsz
      go_wp2_with fail
      refine (HKY.out _).mono ?_
      rintro e w5 ⟨rfl, rfl⟩
      go_wp2_with fail
      refine HSO.out.mono ?_
      rintro e w6 ⟨v, ss, rfl, hS, hrow, hnil, hb6⟩
      obtain ⟨he1, he2⟩ := srt_enc (hS.trans HPM.out.symm)
      rw [he1, he2] at hrow
      have hb56 := (sbelow_new wr (.cells #[.map (some (xb + 1))] 143)).trans (hb6.mono (sbelow_new wr (.cells #[.map (some (xb + 1))] 143)).size)
      have HST6 := Lib.hid (HST.out.step hb56)
      have hlw : ∀ q, v.ownBlock = some q → wr.heap.size + 1 ≤ q := fun q e => by have := (hrow.lt q e).1; simpa using this
      have hWr : RowX (fun q => wr.heap.size ≤ q) w6 v (srt seen).length ((srt seen).map Value.string) := RowX.of_own hrow (fun q e => by have := hlw q e; show wr.heap.size ≤ q; omega)
      have hcap := CapV.of_own hrow
      obtain ⟨va, vc, rfl⟩ := hWr.form
      have HCAP := Lib.hid hcap
      clear hcap
      have HWR := Lib.hid hWr
      have HWSZ : Hid (xb + 1 < wr.heap.size ∧ w.heap.size < wr.heap.size) := Lib.hid (by have h1 := HST.out.seen.lt; have h2 := HST.out.ord; omega)
      obtain ⟨x0, x1, x2, x3⟩ := HST6.out.x.cells
      have xf := HST6.out.x.fz 2
      clear hS hrow hnil hb6 he1 he2 hb56 hlw hWr
      go_wp2_with fail
      have hkx : Keeps (· = xb) w6 (w6.setCell ⟨xb, 2, none⟩ (.slice va (srt seen).length vc)) := (Keeps.refl (· = xb) w6).setCell (q := ⟨xb, 2, none⟩) (.inr rfl) _
      have HX7 : Hid (QuadAt 26 (w6.setCell ⟨xb, 2, none⟩ (.slice va (srt seen).length vc)) xb (.int .i64 1) (.bool neg) (.slice va (srt seen).length vc) (.slice none 0 0)) := Lib.hid (HST6.out.x.put2 _)
      have HR7 : Hid (QuadAt 26 (w6.setCell ⟨xb, 2, none⟩ (.slice va (srt seen).length vc)) w.heap.size (.int .i64 0) (.bool false) (.slice none 0 0) (.slice none 0 0)) := Lib.hid (HST6.out.res.keeps hkx (by have := HST6.out.ord; omega))
      have HD7 : Hid (Rd (w6.setCell ⟨xb, 2, none⟩ (.slice va (srt seen).length vc)) rb s kk n d) := Lib.hid (QuadAt.keeps HST6.out.rd hkx (by have := HST6.out.ord; omega))
      have HW7 := Lib.hid (HWR.out.move (P' := fun q => wr.heap.size ≤ q) hkx.size (fun q hq hlt => ⟨hq, hkx.block q hlt (by have := HWSZ.out; omega)⟩))
      have HK7 : Hid (Keeps (· = rb) w (w6.setCell ⟨xb, 2, none⟩ (.slice va (srt seen).length vc))) := Lib.hid (HST6.out.keep.setCell (q := ⟨xb, 2, none⟩) (.inl (by show w.heap.size ≤ xb; have := HST6.out.ord; omega)) _)
      clear hkx x0 x1 x2 x3 xf
      generalize w6.setCell ⟨xb, 2, none⟩ (.slice va (srt seen).length vc) = w7 at *
      have hX : QuadAt 26 w7.drew xb (.int .i64 1) (.bool neg) (.slice va (srt seen).length vc) (.slice none 0 0) := HX7.out
      have hR : QuadAt 26 w7.drew w.heap.size (.int .i64 0) (.bool false) (.slice none 0 0) (.slice none 0 0) := HR7.out
      have hRD : Rd w7.drew rb s kk n d := HD7.out
      have hKP : Keeps (· = rb) w w7.drew := HK7.out.drew
      have hWW : RowX (fun q => wr.heap.size ≤ q) w7.drew (.slice va (srt seen).length vc) (srt seen).length ((srt seen).map Value.string) := HW7.out
      have hxr : xb ≠ rb := by have := HST6.out.ord; omega
      have hrr : w.heap.size ≠ rb := by have := HST6.out.ord; omega
      have hxw : xb ≠ w.heap.size := by have := HST6.out.ord; omega
      have hxw' := hxw.symm
      by_cases h93 : byteI s (skp s kk) = 93
      · have HE : Hid (chX s k n = .ok (skp s kk + 1) n (.mk 1 neg (srt seen) [])) := Lib.hid (HTOT.out (.ok (skp s kk + 1) 0 seen) (HTT.out.symm.trans (by unfold chEnd; rw [if_pos h93])))
        have HTA := Lib.hid (fun W (h : Rd W rb s kk n d) => rtake_yes s kk n d rb 93 (by decide) h93 hs hkk W h)
        obtain ⟨x0, x1, x2, x3⟩ := hX.cells
        clear h93
        go_region_held3 (fun W => W.cell? ⟨xb, 0, none⟩ = some (.int .i64 1) ∧ W.cell? ⟨xb, 1, none⟩ = some (.bool neg) ∧ W.cell? ⟨xb, 2, none⟩ = some (.slice va (srt seen).length vc) ∧ W.cell? ⟨xb, 3, none⟩ = some (.slice none 0 0))
          (first | go_keep | exact hX.cells)
          (first
          | (go_at_call 99; refine (HTA.out _ hRD).mono ?_; rintro e w' ⟨rfl, hrd, hkp⟩; replace hX := hX.keeps hkp hxr; replace hR := hR.keeps hkp hrr; replace hKP := hKP.trans hkp; replace hWW := hWW.move (P' := fun q => wr.heap.size ≤ q) hkp.size (fun q hq hlt => ⟨hq, hkp.block q hlt (by have := HWSZ.out; have := HRB.out; omega)⟩); have r0 := hR.cells.1; have r1 := hR.cells.2.1; have r2 := hR.cells.2.2.1; have r3 := hR.cells.2.2.2; have rf0 := hR.fz 0; have rf1 := hR.fz 1; have rf2 := hR.fz 2; have rf3 := hR.fz 3))
        go_wp2
        obtain ⟨q0, q1, q2, q3⟩ := (hR.set4 (.int .i64 1) (.bool neg) (.slice va (srt seen).length vc) (.slice none 0 0)).cells
        have hk4 := keeps_set4 w' w.heap.size 0 (.int .i64 1) (.bool neg) (.slice va (srt seen).length vc) (.slice none 0 0)
        have hrd4 := QuadAt.keeps hrd hk4 (by have := HRB.out; omega)
        have hkq := res_keeps hKP (.int .i64 1) (.bool neg) (.slice va (srt seen).length vc) (.slice none 0 0)
        have hw4 := hWW.move (P' := fun q => w.heap.size ≤ q) hk4.size (fun q hq hlt => ⟨by have := HWSZ.out; omega, hk4.block q hlt (by have := HWSZ.out; omega)⟩)
        have hval : ExC (fun q => w.heap.size ≤ q) (set4 w' w.heap.size 0 (.int .i64 1) (.bool neg) (.slice va (srt seen).length vc) (.slice none 0 0)) [.int .i64 1, .bool neg, .slice va (srt seen).length vc, .slice none 0 0] (.mk 1 neg (srt seen) []) := by
          unfold ExC
          exact ⟨_, _, [], rfl, HCAP.out, hw4, RowX.nil _ _, ExsC.nil⟩
        unfold set4 at q0 q1 q2 q3 hrd4 hkq hval
        refine bodyPost_ret (v := .tuple #[.agg #[.int .i64 1, .bool neg, .slice va (srt seen).length vc, .slice none 0 0], .nilIface]) (by simp [results, Tryz.results91, go_sem, q0, q1, q2, q3]) rfl ?_
        rw [HE.out]
        exact ⟨_, _, _, _, _, _, _, _, rfl, hval, hrd4, hkq⟩
      · have HE : Hid (chX s k n = .er (missC s (skp s kk)) (skp s kk)) := Lib.hid (HTOT.out (.er (missC s (skp s kk)) (skp s kk)) (HTT.out.symm.trans (by unfold chEnd; rw [if_neg h93])))
        have HTA := Lib.hid (fun W (h : Rd W rb s kk n d) => rtake_no s kk n d rb 93 h93 hs hkk W h)
        obtain ⟨x0, x1, x2, x3⟩ := hX.cells
        clear h93
        go_region_held3 (fun W => W.cell? ⟨xb, 0, none⟩ = some (.int .i64 1) ∧ W.cell? ⟨xb, 1, none⟩ = some (.bool neg) ∧ W.cell? ⟨xb, 2, none⟩ = some (.slice va (srt seen).length vc) ∧ W.cell? ⟨xb, 3, none⟩ = some (.slice none 0 0))
          (first | go_keep | exact hX.cells)
          (first
          | (go_at_call 99; refine (HTA.out _ hRD).mono ?_; rintro e w' ⟨fb, rfl, hff, hkp⟩; replace hX := hX.keeps hkp hxr; replace hR := hR.keeps hkp hrr; replace hKP := hKP.trans hkp; replace hWW := hWW.move (P' := fun q => wr.heap.size ≤ q) hkp.size (fun q hq hlt => ⟨hq, hkp.block q hlt (by have := HWSZ.out; have := HRB.out; omega)⟩); have r0 := hR.cells.1; have r1 := hR.cells.2.1; have r2 := hR.cells.2.2.1; have r3 := hR.cells.2.2.2; have rf0 := hR.fz 0; have rf1 := hR.fz 1; have rf2 := hR.fz 2; have rf3 := hR.fz 3))
        unfold pf
        go_wp2
        obtain ⟨q0, q1, q2, q3⟩ := (hR.set4 (.int .i64 1) (.bool neg) (.slice va (srt seen).length vc) (.slice none 0 0)).cells
        have hkq := res_keeps hKP (.int .i64 1) (.bool neg) (.slice va (srt seen).length vc) (.slice none 0 0)
        have hfq := hff.setq (missC_ne s _) hR (.int .i64 1) (.bool neg) (.slice va (srt seen).length vc) (.slice none 0 0)
        unfold set4 at q0 q1 q2 q3 hkq hfq
        refine bodyPost_ret (v := .tuple #[.agg #[.int .i64 1, .bool neg, .slice va (srt seen).length vc, .slice none 0 0], pf fb]) (by simp [results, Tryz.results91, go_sem, q0, q1, q2, q3, pf]) rfl ?_
        rw [HE.out]
        exact ⟨fb, _, _, _, _, _, _, _, _, rfl, hfq, hkq⟩
end Go.Proofs.YtpccdhkghlbhkaaGreatDoor

namespace Go.Proofs.YtpccdhkghlbhkaaGreatDoor
open Go.RowKit Go.Extern.Stop Go.Stop Go.Extern Go.WideMaps

theorem rcount_any (s : ByteArray) (k n d rb a : Nat) (hn : n ≤ 100) (w : World) (hr : Rd w rb s k n d) :
    Calls Tryz.prog 60 #[.pointer (some ⟨rb, 0, none⟩), .int .i64 a] w fun e w' => (n + 1 ≤ 100 ∧ e = .returned .nilIface ∧ Rd w' rb s k (n + 1) d ∧ Keeps (· = rb) w w') ∨ (100 < n + 1 ∧ ErrK w rb 6 a e w') := by
  by_cases h : n + 1 ≤ 100
  · refine (count_yes s k n d rb a h w hr).mono ?_
    rintro e w' ⟨h1, h2, h3⟩
    exact .inl ⟨h, h1, h2, h3⟩
  · refine (count_no s k n d rb a (by omega) (by omega) w hr).mono ?_
    intro e w' h2
    exact .inr ⟨by omega, h2⟩
/-- What brackets hold, from behind the first on; a: its place. -/
def brR (s : ByteArray) (sub : Option (Nat → Nat → RO Rx)) (k n a : Nat) : RO Rx :=
  match sub with
  | none => .er 8 a
  | some f =>
    if byteI s (skp s k) = 41 then cnt (skp s k + 1) n (.mk 2 false [] []) a
    else match f k n with
      | .er c a => .er c a
      | .ok k' n' x => if byteI s (skp s k') = 41 then .ok (skp s k' + 1) n' x else .er (missC s (skp s k')) (skp s k')
/-- What alternatives answer, within so many brackets. -/
def AltSpec (s : ByteArray) (f : Nat → Nat → RO Rx) (d : Nat) : Prop := ∀ (k n rb : Nat) (w : World), k ≤ s.size → n ≤ 100 → Rd w rb s k n d → Calls Tryz.prog 31 #[.pointer (some ⟨rb, 0, none⟩)] w (XrOut w rb s d (f k n))
/-- No error's number is 0, at places of the text. -/
def NzR (s : ByteArray) (f : Nat → Nat → RO Rx) : Prop := ∀ k n c a, k ≤ s.size → f k n = .er c a → c ≠ 0
def SubSpec (s : ByteArray) (sub : Option (Nat → Nat → RO Rx)) (d : Nat) : Prop :=
  match sub with
  | none => d = 64
  | some f => d < 64 ∧ AltSpec s f (d + 1) ∧ GoodR s f ∧ NzR s f

/-- Within a call: the reader, the result's cells, an expression's, and what has not changed. -/
structure BsSt (w0 : World) (rb : Nat) (s : ByteArray) (k n d xb : Nat) (x0 x1 x2 x3 : Value) (w : World) : Prop where
  rd : Rd w rb s k n d
  res : QuadAt 26 w w0.heap.size (.int .i64 0) (.bool false) (.slice none 0 0) (.slice none 0 0)
  x : QuadAt 26 w xb x0 x1 x2 x3
  keep : Keeps (· = rb) w0 w
  ord : rb < w0.heap.size ∧ w0.heap.size < xb
section
variable {w0 : World} {rb : Nat} {s : ByteArray} {k n d k' n' d' : Nat} {xb : Nat} {x0 x1 x2 x3 : Value} {w w' : World}
theorem BsSt.go (h : BsSt w0 rb s k n d xb x0 x1 x2 x3 w) (hr : Rd w' rb s k' n' d') (hk : Keeps (· = rb) w w') : BsSt w0 rb s k' n' d' xb x0 x1 x2 x3 w' :=
  ⟨hr, h.res.keeps hk (by have := h.ord; omega), h.x.keeps hk (by have := h.ord; omega), h.keep.trans hk, h.ord⟩
theorem BsSt.step (h : BsSt w0 rb s k n d xb x0 x1 x2 x3 w) (hb : Below w.heap.size w w') : BsSt w0 rb s k n d xb x0 x1 x2 x3 w' := h.go (h.rd.step hb) (.of_below hb)
end
/-- What ends a call that answers an expression. -/
theorem out_ok {w0 w' : World} {rb : Nat} {s : ByteArray} {k n d : Nat} {k1 : Int} {t1 : Bool} {a1 : Option Addr} {l1 c1 : Nat} {a2 : Option Addr} {l2 c2 : Nat} {x : Rx} (hRB : rb < w0.heap.size)
    (hK : Keeps (· = rb) w0 w') (hrd : Rd w' rb s k n d) (hV : ExC (fun q => w0.heap.size < q) w' [.int .i64 k1, .bool t1, .slice a1 l1 c1, .slice a2 l2 c2] x) :
    XrOut w0 rb s d (.ok k n x) (.returned (.tuple #[.agg #[.int .i64 k1, .bool t1, .slice a1 l1 c1, .slice a2 l2 c2], .nilIface])) (set4 w' w0.heap.size 0 (.int .i64 k1) (.bool t1) (.slice a1 l1 c1) (.slice a2 l2 c2)) := by
  have hk4 := keeps_set4 w' w0.heap.size 0 (.int .i64 k1) (.bool t1) (.slice a1 l1 c1) (.slice a2 l2 c2)
  exact ⟨_, _, _, _, _, _, _, _, rfl, hV.move hk4.size (fun q hq hlt => ⟨Nat.le_of_lt hq, hk4.block q hlt (by omega)⟩), QuadAt.keeps hrd hk4 (by omega), res_keeps hK _ _ _ _⟩
theorem out_er {w0 w' : World} {rb : Nat} {s : ByteArray} {d : Nat} {k1 : Int} {t1 : Bool} {a1 : Option Addr} {l1 c1 : Nat} {a2 : Option Addr} {l2 c2 : Nat} {fb : Nat} {c : Int} {a : Nat}
    (hR : QuadAt 26 w' w0.heap.size (.int .i64 0) (.bool false) (.slice none 0 0) (.slice none 0 0)) (hK : Keeps (· = rb) w0 w') (hF : FaultAt w' fb c a) (h0 : c ≠ 0) :
    XrOut w0 rb s d (.er c a) (.returned (.tuple #[.agg #[.int .i64 k1, .bool t1, .slice a1 l1 c1, .slice a2 l2 c2], pf fb])) (set4 w' w0.heap.size 0 (.int .i64 k1) (.bool t1) (.slice a1 l1 c1) (.slice a2 l2 c2)) :=
  ⟨fb, _, _, _, _, _, _, _, _, rfl, hF.setq h0 hR _ _ _ _, res_keeps hK _ _ _ _⟩


set_option maxRecDepth 100000 in
set_option maxHeartbeats 8000000 in
theorem brackets_any (s : ByteArray) (sub : Option (Nat → Nat → RO Rx)) (k n d rb a : Nat) (hs : s.size ≤ 100000) (hk : k ≤ s.size) (hn : n ≤ 100) (hsub : SubSpec s sub d) (w : World) (hr : Rd w rb s k n d) :
    Calls Tryz.prog 90 #[.pointer (some ⟨rb, 0, none⟩), .int .i64 a] w (XrOut w rb s d (brR s sub k n a)) := by
  have hq1 := quad_new w 26 (.int .i64 0) (.bool false) (.slice none 0 0) (.slice none 0 0)
  have hb1 := sbelow_new w (.cells #[.int .i64 0, .bool false, .slice none 0 0, .slice none 0 0] 26)
  have hr1 := hr.step hb1
  have hz1 : (w.alloc (.cells #[.int .i64 0, .bool false, .slice none 0 0, .slice none 0 0] 26)).heap.size = w.heap.size + 1 := World.size_alloc _ _
  have HRB := Lib.hid hr.lt
  generalize hw1 : w.alloc (.cells #[.int .i64 0, .bool false, .slice none 0 0, .slice none 0 0] 26) = w1 at *
  have HQ1 := Lib.hid hq1
  have HB1 := Lib.hid hb1
  have HZ1 := Lib.hid hz1
  have HR1 := Lib.hid hr1
  obtain ⟨-, -, -, c3⟩ := hr1.cells
  clear hq1 hb1 hr1 hr
  cases sub with
  | none =>
    obtain rfl : d = 64 := hsub
    go_enter Tryz.func90, Tryz.ntmps90
    go_wp2_with fail
    refine (new_err 8 a (by decide) _).mono ?_
    rintro e w2 ⟨fb, rfl, hf2, b2⟩
    have HR := Lib.hid (HQ1.out.step b2)
    have HK : Hid (Keeps (· = rb) w w2) := Lib.hid ((Keeps.of_below HB1.out).next b2)
    have HF := Lib.hid hf2
    clear hf2 b2 c3
    have r0 := HR.out.cells.1
    have r1 := HR.out.cells.2.1
    have r2 := HR.out.cells.2.2.1
    have r3 := HR.out.cells.2.2.2
    have rf0 := HR.out.fz 0
    have rf1 := HR.out.fz 1
    have rf2 := HR.out.fz 2
    have rf3 := HR.out.fz 3
    unfold pf
    go_wp2_with fail
    have ho := out_er (s := s) (d := 64) (k1 := 0) (t1 := false) (a1 := none) (l1 := 0) (c1 := 0) (a2 := none) (l2 := 0) (c2 := 0) HR.out HK.out HF.out (by decide)
    obtain ⟨q0, q1, q2, q3⟩ := (HR.out.set4 (.int .i64 0) (.bool false) (.slice none 0 0) (.slice none 0 0)).cells
    unfold set4 at q0 q1 q2 q3 ho
    exact bodyPost_ret (v := .tuple #[.agg #[.int .i64 0, .bool false, .slice none 0 0, .slice none 0 0], pf fb]) (by simp [results, Tryz.results90, go_sem, q0, q1, q2, q3, pf]) rfl ho
  | some f =>
    obtain ⟨hd, halt, hgood, hnz⟩ := hsub
    have HALT := Lib.hid halt
    have HGOOD := Lib.hid hgood
    have HNZ := Lib.hid hnz
    have hd64 : ((d : Int) == 64) = false := beq_eq_false_iff_ne.2 (by omega)
    have HT := Lib.hid (took_any s k n d rb 41 (by decide) hs hk w1 HR1.out)
    rw [show ((41 : UInt8).toNat : Int) = 41 from rfl] at HT
    have HKL := Lib.hid hk
    clear halt hgood hnz
    go_enter Tryz.func90, Tryz.ntmps90
    go_wp2_with fail
    refine HT.out.mono ?_
    rintro e w2 ⟨rfl, hr2, hk2⟩
    have HR2 := Lib.hid (HQ1.out.keeps hk2 (by have := HRB.out; omega))
    have HK2 : Hid (Keeps (· = rb) w w2) := Lib.hid ((Keeps.of_below HB1.out).trans hk2)
    have HD2 := Lib.hid hr2
    clear c3 hr2 hk2
    by_cases h41 : byteI s (skp s k) = 41
    · rw [decide_eq_true h41]
      have HD3 : Hid (Rd w2 rb s (skp s k + 1) n d) := Lib.hid (by have := HD2.out; unfold tkK at this; rwa [if_pos h41] at this)
      have HE : Hid (brR s (some f) k n a = cnt (skp s k + 1) n (.mk 2 false [] []) a) := Lib.hid (by simp only [brR]; rw [if_pos h41])
      have HCN := Lib.hid (fun W (h : Rd W rb s (skp s k + 1) n d) => rcount_any s (skp s k + 1) n d rb a hn W h)
      clear h41 HD2
      go_wp2_with fail
      refine (HCN.out _ HD3.out).mono ?_
      rintro e w3 (⟨hn1, rfl, hr3, hk3⟩ | ⟨hn1, fb, rfl, hf3, hk3⟩)
      · have HR := Lib.hid (HR2.out.keeps hk3 (by have := HRB.out; omega))
        have HK := Lib.hid (HK2.out.trans hk3)
        have HD := Lib.hid hr3
        have HN1 := Lib.hid hn1
        clear hr3 hk3 hn1
        have r0 := HR.out.cells.1
        have r1 := HR.out.cells.2.1
        have r2 := HR.out.cells.2.2.1
        have r3 := HR.out.cells.2.2.2
        have rf0 := HR.out.fz 0
        have rf1 := HR.out.fz 1
        have rf2 := HR.out.fz 2
        have rf3 := HR.out.fz 3
        go_wp2_with fail
        have ho := out_ok (x := .mk 2 false [] []) (k1 := 2) (t1 := false) (a1 := none) (l1 := 0) (c1 := 0) (a2 := none) (l2 := 0) (c2 := 0) HRB.out HK.out HD.out (by unfold ExC; exact ⟨_, _, [], rfl, CapV.nil, RowX.nil _ _, RowX.nil _ _, ExsC.nil⟩)
        obtain ⟨q0, q1, q2, q3⟩ := (HR.out.set4 (.int .i64 2) (.bool false) (.slice none 0 0) (.slice none 0 0)).cells
        unfold set4 at q0 q1 q2 q3 ho
        refine bodyPost_ret (v := .tuple #[.agg #[.int .i64 2, .bool false, .slice none 0 0, .slice none 0 0], .nilIface]) (by simp [results, Tryz.results90, go_sem, q0, q1, q2, q3]) rfl ?_
        rw [HE.out, cnt, if_neg (by have := HN1.out; omega)]
        exact ho
      · have HR := Lib.hid (HR2.out.keeps hk3 (by have := HRB.out; omega))
        have HK := Lib.hid (HK2.out.trans hk3)
        have HF := Lib.hid hf3
        have HN1 := Lib.hid hn1
        clear hf3 hk3 hn1
        have r0 := HR.out.cells.1
        have r1 := HR.out.cells.2.1
        have r2 := HR.out.cells.2.2.1
        have r3 := HR.out.cells.2.2.2
        have rf0 := HR.out.fz 0
        have rf1 := HR.out.fz 1
        have rf2 := HR.out.fz 2
        have rf3 := HR.out.fz 3
        unfold pf
        go_wp2_with fail
        have ho := out_er (s := s) (d := d) (k1 := 2) (t1 := false) (a1 := none) (l1 := 0) (c1 := 0) (a2 := none) (l2 := 0) (c2 := 0) HR.out HK.out HF.out (by decide)
        obtain ⟨q0, q1, q2, q3⟩ := (HR.out.set4 (.int .i64 2) (.bool false) (.slice none 0 0) (.slice none 0 0)).cells
        unfold set4 at q0 q1 q2 q3 ho
        refine bodyPost_ret (v := .tuple #[.agg #[.int .i64 2, .bool false, .slice none 0 0, .slice none 0 0], pf fb]) (by simp [results, Tryz.results90, go_sem, q0, q1, q2, q3, pf]) rfl ?_
        rw [HE.out, cnt, if_pos HN1.out]
        exact ho
    · rw [decide_eq_false h41]
      have HD3 : Hid (Rd w2 rb s k n d) := Lib.hid (by have := HD2.out; unfold tkK at this; rwa [if_neg h41] at this)
      have HE : Hid (∀ o, f k n = o → brR s (some f) k n a = (match o with | .er c a => .er c a | .ok k' n' x => if byteI s (skp s k') = 41 then .ok (skp s k' + 1) n' x else .er (missC s (skp s k')) (skp s k'))) := Lib.hid (by rintro o rfl; simp only [brR]; rw [if_neg h41])
      obtain ⟨-, -, -, c3⟩ := HD3.out.cells
      have f3 := HD3.out.fz 3
      have HD4 : Hid (Rd (w2.setCell ⟨rb, 3, none⟩ (.int .i64 ((d : Int) + 1))) rb s k n (d + 1)) := Lib.hid (QuadAt.put3 HD3.out _)
      have hkp := keeps_put1 w2 rb 3 (.int .i64 ((d : Int) + 1))
      have HR4 := Lib.hid (HR2.out.keeps hkp (by have := HRB.out; omega))
      have HK4 := Lib.hid (HK2.out.trans hkp)
      clear h41 HD2 hkp
      go_wp2_with fail
      generalize w2.setCell ⟨rb, 3, none⟩ (.int .i64 ((d : Int) + 1)) = w4 at *
      clear c3 f3
      have HCALL := Lib.hid (HALT.out k n rb w4 HKL.out hn HD4.out)
      cases ho : f k n with
      | er cc aa =>
        rw [ho] at HCALL
        have HE2 : Hid (brR s (some f) k n a = .er cc aa) := Lib.hid (HE.out _ ho)
        have HC0 := Lib.hid (HNZ.out k n cc aa HKL.out ho)
        clear ho
        refine HCALL.out.mono ?_
        rintro e w5 ⟨fb, xk, xt, xa1, xl1, xc1, xa2, xl2, xc2, rfl, hf5, hk5⟩
        have b6 := sbelow_new w5 (.cells #[.int .i64 xk, .bool xt, .slice xa1 xl1 xc1, .slice xa2 xl2 xc2] 26)
        have HR := Lib.hid ((HR4.out.keeps hk5 (by have := HRB.out; omega)).step b6)
        have HK := Lib.hid ((HK4.out.trans hk5).next b6)
        have HF := Lib.hid (hf5.keep b6)
        clear hf5 hk5 b6
        have r0 := HR.out.cells.1
        have r1 := HR.out.cells.2.1
        have r2 := HR.out.cells.2.2.1
        have r3 := HR.out.cells.2.2.2
        have rf0 := HR.out.fz 0
        have rf1 := HR.out.fz 1
        have rf2 := HR.out.fz 2
        have rf3 := HR.out.fz 3
        unfold pf
        go_wp2_with fail
        have ho := out_er (s := s) (d := d) (k1 := 0) (t1 := false) (a1 := none) (l1 := 0) (c1 := 0) (a2 := none) (l2 := 0) (c2 := 0) HR.out HK.out HF.out HC0.out
        obtain ⟨q0, q1, q2, q3⟩ := (HR.out.set4 (.int .i64 0) (.bool false) (.slice none 0 0) (.slice none 0 0)).cells
        unfold set4 at q0 q1 q2 q3 ho
        refine bodyPost_ret (v := .tuple #[.agg #[.int .i64 0, .bool false, .slice none 0 0, .slice none 0 0], pf fb]) (by simp [results, Tryz.results90, go_sem, q0, q1, q2, q3, pf]) rfl ?_
        rw [HE2.out]
        exact ho
      | ok k5 n5 x5 =>
        rw [ho] at HCALL
        have HE2 := Lib.hid (HE.out _ ho)
        have HG5 := Lib.hid (HGOOD.out k n k5 n5 x5 HKL.out ho)
        clear ho
        refine HCALL.out.mono ?_
        rintro e w5 ⟨xk, xt, xa1, xl1, xc1, xa2, xl2, xc2, rfl, hv5, hr5, hk5⟩
        have b6 := sbelow_new w5 (.cells #[.int .i64 xk, .bool xt, .slice xa1 xl1 xc1, .slice xa2 xl2 xc2] 26)
        have HX6 := Lib.hid (quad_new w5 26 (.int .i64 xk) (.bool xt) (.slice xa1 xl1 xc1) (.slice xa2 xl2 xc2))
        have HR6 := Lib.hid ((HR4.out.keeps hk5 (by have := HRB.out; omega)).step b6)
        have HK6 := Lib.hid ((HK4.out.trans hk5).next b6)
        have HD6 := Lib.hid (hr5.step b6)
        have hz4 : w.heap.size < w4.heap.size := HR4.out.lt
        have hz5 : w4.heap.size ≤ w5.heap.size := hk5.size
        have HV6 : Hid (ExC (fun q => w.heap.size < q) (w5.alloc (.cells #[.int .i64 xk, .bool xt, .slice xa1 xl1 xc1, .slice xa2 xl2 xc2] 26)) [.int .i64 xk, .bool xt, .slice xa1 xl1 xc1, .slice xa2 xl2 xc2] x5) := Lib.hid ((hv5.step b6).move (Nat.le_refl _) (fun q hq _ => ⟨by omega, rfl⟩))
        have HZ5 : Hid (w.heap.size < w5.heap.size) := Lib.hid (by omega)
        clear hv5 hr5 hk5 b6 hz4 hz5
        obtain ⟨-, -, -, c3⟩ := HD6.out.cells
        have f3 := HD6.out.fz 3
        generalize hw6 : w5.alloc (.cells #[.int .i64 xk, .bool xt, .slice xa1 xl1 xc1, .slice xa2 xl2 xc2] 26) = w6 at *
        have HD7 : Hid (Rd (w6.setCell ⟨rb, 3, none⟩ (.int .i64 d)) rb s k5 n5 d) := Lib.hid (QuadAt.put3 HD6.out _)
        have hkp := keeps_put1 w6 rb 3 (.int .i64 d)
        have HR7 := Lib.hid (HR6.out.keeps hkp (by have := HRB.out; omega))
        have HX7 := Lib.hid (HX6.out.keeps hkp (by have := HRB.out; have := HZ5.out; omega))
        have HK7 := Lib.hid (HK6.out.trans hkp)
        have HV7 := Lib.hid (HV6.out.move (P' := fun q => w.heap.size < q) hkp.size (fun q hq hlt => ⟨hq, hkp.block q hlt (by have := HRB.out; omega)⟩))
        clear hkp
        go_wp2_with fail
        generalize w6.setCell ⟨rb, 3, none⟩ (.int .i64 d) = w7 at *
        generalize w5.heap.size = xb at *
        have hX : QuadAt 26 w7.drew xb (.int .i64 xk) (.bool xt) (.slice xa1 xl1 xc1) (.slice xa2 xl2 xc2) := HX7.out
        have hR : QuadAt 26 w7.drew w.heap.size (.int .i64 0) (.bool false) (.slice none 0 0) (.slice none 0 0) := HR7.out
        have hRD : Rd w7.drew rb s k5 n5 d := HD7.out
        have hKP : Keeps (· = rb) w w7.drew := HK7.out.drew
        have hVV : ExC (fun q => w.heap.size < q) w7.drew [.int .i64 xk, .bool xt, .slice xa1 xl1 xc1, .slice xa2 xl2 xc2] x5 := HV7.out.move (Nat.le_refl _) (fun q hq _ => ⟨hq, rfl⟩)
        have hxr : xb ≠ rb := by have := HZ5.out; have := HRB.out; omega
        have hrr : w.heap.size ≠ rb := by have := HRB.out; omega
        have hxw : xb ≠ w.heap.size := by have := HZ5.out; omega
        have hxw' := hxw.symm
        clear c3 f3 hw6
        by_cases h93 : byteI s (skp s k5) = 41
        · have HTA := Lib.hid (fun W (h : Rd W rb s k5 n5 d) => rtake_yes s k5 n5 d rb 41 (by decide) h93 hs HG5.out.2.2 W h)
          have HE3 : Hid (brR s (some f) k n a = .ok (skp s k5 + 1) n5 x5) := Lib.hid (HE2.out.trans (if_pos h93))
          obtain ⟨x0, x1, x2, x3⟩ := hX.cells
          clear h93
          go_region_held3 (fun W => W.cell? ⟨xb, 0, none⟩ = some (.int .i64 xk) ∧ W.cell? ⟨xb, 1, none⟩ = some (.bool xt) ∧ W.cell? ⟨xb, 2, none⟩ = some (.slice xa1 xl1 xc1) ∧ W.cell? ⟨xb, 3, none⟩ = some (.slice xa2 xl2 xc2))
            (first | go_keep | exact hX.cells)
            (first
            | (go_at_call 99; refine (HTA.out _ hRD).mono ?_; rintro e w' ⟨rfl, hrd, hkp⟩; replace hX := hX.keeps hkp hxr; replace hR := hR.keeps hkp hrr; replace hKP := hKP.trans hkp; replace hVV := hVV.move (P' := fun q => w.heap.size < q) hkp.size (fun q hq hlt => ⟨hq, hkp.block q hlt (by have := HRB.out; omega)⟩); have r0 := hR.cells.1; have r1 := hR.cells.2.1; have r2 := hR.cells.2.2.1; have r3 := hR.cells.2.2.2; have rf0 := hR.fz 0; have rf1 := hR.fz 1; have rf2 := hR.fz 2; have rf3 := hR.fz 3))
          go_wp2
          have ho := out_ok HRB.out hKP hrd hVV
          obtain ⟨q0, q1, q2, q3⟩ := (hR.set4 (.int .i64 xk) (.bool xt) (.slice xa1 xl1 xc1) (.slice xa2 xl2 xc2)).cells
          unfold set4 at q0 q1 q2 q3 ho
          refine bodyPost_ret (v := .tuple #[.agg #[.int .i64 xk, .bool xt, .slice xa1 xl1 xc1, .slice xa2 xl2 xc2], .nilIface]) (by simp [results, Tryz.results90, go_sem, q0, q1, q2, q3]) rfl ?_
          rw [HE3.out]
          exact ho
        · have HTA := Lib.hid (fun W (h : Rd W rb s k5 n5 d) => rtake_no s k5 n5 d rb 41 h93 hs HG5.out.2.2 W h)
          have HE3 : Hid (brR s (some f) k n a = .er (missC s (skp s k5)) (skp s k5)) := Lib.hid (HE2.out.trans (if_neg h93))
          obtain ⟨x0, x1, x2, x3⟩ := hX.cells
          clear h93
          go_region_held3 (fun W => W.cell? ⟨xb, 0, none⟩ = some (.int .i64 xk) ∧ W.cell? ⟨xb, 1, none⟩ = some (.bool xt) ∧ W.cell? ⟨xb, 2, none⟩ = some (.slice xa1 xl1 xc1) ∧ W.cell? ⟨xb, 3, none⟩ = some (.slice xa2 xl2 xc2))
            (first | go_keep | exact hX.cells)
            (first
            | (go_at_call 99; refine (HTA.out _ hRD).mono ?_; rintro e w' ⟨fb, rfl, hff, hkp⟩; replace hX := hX.keeps hkp hxr; replace hR := hR.keeps hkp hrr; replace hKP := hKP.trans hkp; have r0 := hR.cells.1; have r1 := hR.cells.2.1; have r2 := hR.cells.2.2.1; have r3 := hR.cells.2.2.2; have rf0 := hR.fz 0; have rf1 := hR.fz 1; have rf2 := hR.fz 2; have rf3 := hR.fz 3))
          unfold pf
          go_wp2
          have ho := out_er (s := s) (d := d) (k1 := xk) (t1 := xt) (a1 := xa1) (l1 := xl1) (c1 := xc1) (a2 := xa2) (l2 := xl2) (c2 := xc2) hR hKP hff (missC_ne s _)
          obtain ⟨q0, q1, q2, q3⟩ := (hR.set4 (.int .i64 xk) (.bool xt) (.slice xa1 xl1 xc1) (.slice xa2 xl2 xc2)).cells
          unfold set4 at q0 q1 q2 q3 ho
          refine bodyPost_ret (v := .tuple #[.agg #[.int .i64 xk, .bool xt, .slice xa1 xl1 xc1, .slice xa2 xl2 xc2], pf fb]) (by simp [results, Tryz.results90, go_sem, q0, q1, q2, q3, pf]) rfl ?_
          rw [HE3.out]
          exact ho
end Go.Proofs.YtpccdhkghlbhkaaGreatDoor
