/-
  Package tree by contracts, second part: a byte that stands there or doesn't, words, texts in quotes.
-/
import Derived.Test.YtajmlkephefapaaGreatDoorTreeB
namespace Go.Proofs.YtajmlkephefapaaGreatDoor
open Go.RowKit Go.Extern.Stop Go.Stop Go.Extern

/-! ### Has, of one byte -/
theorem toList_beq (x y : ByteArray) : (x.toList == y.toList) = decide (x = y) := by
  by_cases h : x = y
  · subst h; simp
  · rw [bytes_ne h]; simp [h]
theorem rest_one (s : ByteArray) (k : Nat) (hk : k < s.size) : (restOf s k).extract 0 1 = ⟨#[s[k]]⟩ := by
  unfold restOf
  apply ByteArray.ext
  apply Array.ext
  · have hk' : k < s.data.size := hk
    have hk2 : k < s.size := hk
    simp [ByteArray.data_extract]
    omega
  · intro i h1 h2
    have h2' : i < 1 := h2
    obtain rfl : i = 0 := by omega
    simp [ByteArray.data_extract]
    rfl
theorem hasPre_one (s : ByteArray) (k : Nat) (b : UInt8) (hk : k ≤ s.size) : hasPre (restOf s k) ⟨#[b]⟩ = decide (byteI s k = (b.toNat : Int) ∧ k < s.size) := by
  unfold hasPre
  rw [restOf_size s k hk, toList_beq, show (ByteArray.mk #[b]).size = 1 from rfl]
  by_cases hlt : k < s.size
  · rw [rest_one s k hlt, byteI_lt hlt, decide_eq_true (show 1 ≤ s.size - k by omega), Bool.true_and]
    rw [Bool.eq_iff_iff]
    simp only [decide_eq_true_eq]
    constructor
    · intro h
      have : #[s[k]] = #[b] := congrArg ByteArray.data h
      have : s[k] = b := by simpa using this
      exact ⟨by rw [this], hlt⟩
    · rintro ⟨h, -⟩
      have : s[k] = b := UInt8.toNat_inj.1 (by omega)
      rw [this]
  · rw [decide_eq_false (show ¬ 1 ≤ s.size - k by omega), Bool.false_and, decide_eq_false (fun h => hlt h.2)]
theorem has_is (s : ByteArray) (k : Nat) (b : UInt8) (hs : s.size ≤ 100000) (hk : k < s.size) (hb : byteI s k = (b.toNat : Int)) (w : World) :
    Calls Tryz.prog 91 #[.agg #[.string s, .int .i64 k], .string ⟨#[b]⟩] w fun e w' => e = .returned (.tuple #[.agg #[.string s, .int .i64 (k + 1 : Nat)], .bool true]) ∧ Below w.heap.size w w' := by
  have h := shas_any s k ⟨#[b]⟩ hs (by omega) (by unfold maxLen; show 1 ≤ _; omega) w
  unfold hasK at h
  rw [hasPre_one s k b (by omega), decide_eq_true (show _ ∧ _ from ⟨hb, hk⟩), if_pos rfl] at h
  exact h
theorem has_not (s : ByteArray) (k : Nat) (b : UInt8) (hs : s.size ≤ 100000) (hk : k ≤ s.size) (hb : ¬ (byteI s k = (b.toNat : Int) ∧ k < s.size)) (w : World) :
    Calls Tryz.prog 91 #[.agg #[.string s, .int .i64 k], .string ⟨#[b]⟩] w fun e w' => e = .returned (.tuple #[.agg #[.string s, .int .i64 k], .bool false]) ∧ Below w.heap.size w w' := by
  have h := shas_any s k ⟨#[b]⟩ hs hk (by unfold maxLen; show 1 ≤ _; omega) w
  unfold hasK at h
  rw [hasPre_one s k b hk, decide_eq_false hb, if_neg (by decide)] at h
  exact h

/-! ### word -/
/-- A place and an error that is told, or none. -/
def PlaceOut (w : World) (s : ByteArray) (k : Nat) (c : Int) (e : Ending) (w' : World) : Prop :=
  (c = 0 ∧ e = .returned (.tuple #[.agg #[.string s, .int .i64 k], .nilIface]) ∧ Below w.heap.size w w') ∨
  (c ≠ 0 ∧ ∃ fb, e = .returned (.tuple #[.agg #[.string s, .int .i64 k], pf fb]) ∧ FaultAt w' fb c k ∧ Below w.heap.size w w')

structure WordGo (s l : ByteArray) (k : Nat) (w0 : World) (m j : Nat) (wr : World) : Prop where
  le : m ≤ l.size
  in' : j ≤ s.size
  go : wordR s j (l.data.toList.drop m) = wordR s k l.data.toList
  inn : ScanAt wr w0.heap.size s j
  res : ScanAt wr (w0.heap.size + 1) ⟨#[]⟩ 0
  below : Below w0.heap.size w0 wr
structure WordOff (s l : ByteArray) (k : Nat) (w0 : World) (m j fb : Nat) (wr : World) : Prop where
  le : m ≤ l.size
  off : wordR s k l.data.toList = (j, missC s j)
  fault : FaultAt wr fb (missC s j) j
  inn : ScanAt wr w0.heap.size s j
  res : ScanAt wr (w0.heap.size + 1) ⟨#[]⟩ 0
  below : Below w0.heap.size w0 wr
def WordRel (s l : ByteArray) (k : Nat) (w0 : World) (n : Nat) (e i : Value) (wr : World) : Prop :=
  ∃ m j : Nat, i = .int .i64 m ∧ n = l.size - m ∧ ((e = .nilIface ∧ WordGo s l k w0 m j wr) ∨ ∃ fb, e = pf fb ∧ WordOff s l k w0 m j fb wr)

set_option maxRecDepth 100000 in
set_option maxHeartbeats 2000000 in
theorem tword_any (s l : ByteArray) (k : Nat) (hs : s.size ≤ 100000) (hl : l.size ≤ 100) (hk : k ≤ s.size) (w : World) :
    Calls Tryz.prog 56 #[.agg #[.string s, .int .i64 k], .string l] w (PlaceOut w s (wordR s k l.data.toList).1 (wordR s k l.data.toList).2) := by
  have H0 := Lib.hid (InScan.new w s k 58)
  have HR : Hid (WordRel s l k w l.size .nilIface (.int .i64 (0 : Nat)) ((w.alloc (.cells #[.string s, .int .i64 k] 58)).alloc (.cells #[.string ⟨#[]⟩, .int .i64 0] 58))) :=
    ⟨0, k, rfl, rfl, .inl ⟨rfl, Nat.zero_le _, hk, rfl, H0.out.own, H0.out.res, H0.out.below⟩⟩
  go_enter Tryz.func56, Tryz.ntmps56
  go_wp2
  go_loopg [6, 7] l.size (fun n e i wr => WordRel s l k w n e i wr)
  case atStart => exact HR.out
  case round =>
    obtain ⟨m, j, rfl, hn, ⟨rfl, hG⟩ | ⟨fb, rfl, hO⟩⟩ := hrel
    · have HN := Lib.hid hn
      clear hn
      have HG := Lib.hid hG
      have hle := hG.le
      have hin := hG.in'
      obtain ⟨x0, c0, c1, cf⟩ := hG.inn
      obtain ⟨y0, r0, r1, rf⟩ := hG.res
      clear hG
      by_cases hm : m < l.size
      · have hdrop : l.data.toList.drop m = l[m] :: l.data.toList.drop (m + 1) := by rw [List.drop_eq_getElem_cons (by simpa using hm)]; rfl
        have HG' := Lib.hid (hdrop ▸ HG.out.go)
        by_cases hb : byteI s j = (l[m].toNat : Int) ∧ j < s.size
        · have hT := fun w => take_is s j hs hb.2 _ hb.1 w
          have hgo : wordR s (j + 1) (l.data.toList.drop (m + 1)) = wordR s k l.data.toList := by
            have := HG'.out
            rw [wordR, if_pos hb] at this
            exact this
          have hj1 : j + 1 ≤ s.size := hb.2
          generalize j + 1 = j' at *
          have HT := Lib.hid hT
          have HGO := Lib.hid hgo
          clear hT hgo hdrop hb
          have i1 : ScanAt wr.drew w.heap.size s j := HG.out.inn
          have i2 : ScanAt wr.drew (w.heap.size + 1) ⟨#[]⟩ 0 := HG.out.res
          have i3 : Below w.heap.size w wr.drew := HG.out.below.drew
          go_wp2_with fail
          go_region_with (first
            | (go_at_call 86; refine (HT.out _).mono ?_; rintro e w' ⟨rfl, hb⟩; replace i1 := i1.step hb; replace i2 := i2.step hb; replace i3 := i3.trans (hb.mono i3.size); have z0 := i1.2.1; have z1 := i1.2.2.1; have zf := i1.2.2.2))
          all_goals
            have i1' := i1.set s j'
            have i2' := i2.farPut (r := w.heap.size) (by omega) s j'
            have i3' := (i3.setCell (p := ⟨w.heap.size, 0, none⟩) (Nat.le_refl _) (.string s)).setCell (p := ⟨w.heap.size, 1, none⟩) (Nat.le_refl _) (.int .i64 j')
            have I := Lib.hid (And.intro i1' (And.intro i2' i3'))
            clear i1 i2 i3 i1' i2' i3'
            go_wp2
            go_roundg (l.size - (m + 1))
            case measure => have := HN.out; omega
            case rel => exact ⟨m + 1, j', by go_num, rfl, .inl ⟨rfl, by omega, hj1, HGO.out, I.out.1, I.out.2.1, I.out.2.2⟩⟩
        · have hT := fun w => take_not s j hs hin _ hb w
          have hoff : wordR s k l.data.toList = (j, missC s j) := by
            have := HG'.out
            rw [wordR, if_neg hb] at this
            exact this.symm
          have HT := Lib.hid hT
          have HOFF := Lib.hid hoff
          clear hT hoff hdrop hb
          have i1 : ScanAt wr.drew w.heap.size s j := HG.out.inn
          have i2 : ScanAt wr.drew (w.heap.size + 1) ⟨#[]⟩ 0 := HG.out.res
          have i3 : Below w.heap.size w wr.drew := HG.out.below.drew
          go_wp2_with fail
          go_region_with (first
            | (go_at_call 86; refine (HT.out _).mono ?_; rintro e w' ⟨fb, rfl, hv, hb⟩; replace i1 := i1.step hb; replace i2 := i2.step hb; replace i3 := i3.trans (hb.mono i3.size); have z0 := i1.2.1; have z1 := i1.2.2.1; have zf := i1.2.2.2))
          all_goals
            have i1' := i1.set s j
            have i2' := i2.farPut (r := w.heap.size) (by omega) s j
            have i3' := (i3.setCell (p := ⟨w.heap.size, 0, none⟩) (Nat.le_refl _) (.string s)).setCell (p := ⟨w.heap.size, 1, none⟩) (Nat.le_refl _) (.int .i64 j)
            have i4' := hv.set i1 s j
            have I := Lib.hid (And.intro i1' (And.intro i2' (And.intro i3' i4')))
            clear i1 i2 i3 i1' i2' i3' i4' hv
            go_wp2
            go_roundg (l.size - (m + 1))
            case measure => have := HN.out; omega
            case rel => exact ⟨m + 1, j, by go_num, rfl, .inr ⟨fb, rfl, by omega, HOFF.out, I.out.2.2.2, I.out.1, I.out.2.1, I.out.2.2.1⟩⟩
      · have hfin : wordR s k l.data.toList = (j, 0) := by
          have := HG.out.go
          rw [List.drop_eq_nil_of_le (by simp; omega)] at this
          exact this.symm
        have HFIN := Lib.hid hfin
        obtain ⟨q0, q1⟩ := HG.out.res.put s j
        have hb := ((HG.out.below.setCell (p := ⟨w.heap.size + 1, 0, none⟩) (by simp) (.string s)).setCell (p := ⟨w.heap.size + 1, 1, none⟩) (by simp) (.int .i64 j))
        have Q0 := Lib.hid q0
        have Q1 := Lib.hid q1
        clear hfin q0 q1
        go_wp2
        rw [HFIN.out]
        have q0 := Q0.out
        have q1 := Q1.out
        exact bodyPost_ret (v := .tuple #[.agg #[.string s, .int .i64 j], .nilIface]) (by simp [results, Tryz.results56, go_sem, q0, q1]) rfl (.inl ⟨rfl, rfl, hb⟩)
    · have HO := Lib.hid hO
      have hle := hO.le
      obtain ⟨x0, c0, c1, cf⟩ := hO.inn
      obtain ⟨y0, r0, r1, rf⟩ := hO.res
      obtain ⟨q0, q1⟩ := HO.out.res.put s j
      have hb := ((HO.out.below.setCell (p := ⟨w.heap.size + 1, 0, none⟩) (by simp) (.string s)).setCell (p := ⟨w.heap.size + 1, 1, none⟩) (by simp) (.int .i64 j))
      have hf := HO.out.fault.set HO.out.res s j
      have Q0 := Lib.hid q0
      have Q1 := Lib.hid q1
      have HF := Lib.hid hf
      clear hO q0 q1 hf hn
      unfold pf
      by_cases hm : m < l.size
      all_goals
        go_wp2
        rw [HO.out.off]
        have q0 := Q0.out
        have q1 := Q1.out
        exact bodyPost_ret (v := .tuple #[.agg #[.string s, .int .i64 j], pf fb]) (by simp [results, Tryz.results56, go_sem, q0, q1, pf]) rfl (.inr ⟨missC_ne s j, fb, rfl, HF.out, hb⟩)
end Go.Proofs.YtajmlkephefapaaGreatDoor
