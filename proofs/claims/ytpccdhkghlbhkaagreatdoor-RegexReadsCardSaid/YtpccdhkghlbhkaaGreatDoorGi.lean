/-
  Plain: a text that stands at a place of another; how far one goes there.
  The document's own reader of expressions by contracts: a part, without signs.
  The document's own reader of expressions by contracts: a part that is a set of words, or a word.
  The document's own reader of expressions by contracts: a part that is a word.
  The document's own reader of expressions by contracts: a part in brackets.
  The document's own reader of expressions by contracts: a part as a whole, and the signs behind it.
-/
import Derived.Test.YtpccdhkghlbhkaaGreatDoorScanH
import Derived.Test.YtpccdhkghlbhkaaGreatDoorGh
import Derived.Test.YtpccdhkghlbhkaaGreatDoorGf
namespace Go.Proofs.YtpccdhkghlbhkaaGreatDoor
open Go.RowKit Go.Extern.Stop Go.Stop Go.Extern

theorem byteI_list (l : List UInt8) (k : Nat) : byteI ⟨l.toArray⟩ k = ((l[k]?).map (fun b => (b.toNat : Int))).getD 0 := by
  have hz : (⟨l.toArray⟩ : ByteArray).size = l.length := by simp [ByteArray.size]
  by_cases h : k < l.length
  · rw [byteI_lt (by rw [hz]; exact h), List.getElem?_eq_getElem h]
    simp [ByteArray.getElem_eq_getElem_data]
  · rw [byteI_ge (by rw [hz]; exact h), List.getElem?_eq_none (by omega)]
    rfl
/-- Bytes that stand at a place. -/
def At (S : ByteArray) (k : Nat) (l : List UInt8) : Prop := k + l.length ≤ S.size ∧ ∀ i b, l[i]? = some b → byteI S (k + i) = b.toNat
theorem At.left {S : ByteArray} {k : Nat} {l r : List UInt8} (h : At S k (l ++ r)) : At S k l := by
  refine ⟨by have := h.1; simp at this; omega, fun i b hi => h.2 i b ?_⟩
  rw [List.getElem?_append_left (List.getElem?_eq_some_iff.1 hi).1]
  exact hi
theorem At.right {S : ByteArray} {k : Nat} {l r : List UInt8} (h : At S k (l ++ r)) : At S (k + l.length) r := by
  refine ⟨by have := h.1; simp at this; omega, fun i b hi => ?_⟩
  have h2 := h.2 (l.length + i) b (by rw [List.getElem?_append_right (by omega)]; rw [show l.length + i - l.length = i by omega]; exact hi)
  rw [← h2, Nat.add_assoc]
theorem At.head {S : ByteArray} {k : Nat} {b : UInt8} {r : List UInt8} (h : At S k (b :: r)) : byteI S k = b.toNat := h.2 0 b rfl
theorem At.tail {S : ByteArray} {k : Nat} {b : UInt8} {r : List UInt8} (h : At S k (b :: r)) : At S (k + 1) r := by
  have : At S k ([b] ++ r) := h
  exact this.right
theorem At.extract {S : ByteArray} {k : Nat} {l : List UInt8} (h : At S k l) : S.extract k (k + l.length) = ⟨l.toArray⟩ := by
  have h1 := h.1
  apply ByteArray.ext
  apply Array.ext
  · simp
    have : S.data.size = S.size := rfl
    omega
  · intro i h2 h3
    have hi : i < l.length := by simpa using h3
    have hb := h.2 i _ (List.getElem?_eq_getElem hi)
    rw [byteI_lt (by omega)] at hb
    have hb2 : S[k + i] = l[i] := UInt8.toNat_inj.1 (by omega)
    simp only [ByteArray.data_extract, Array.getElem_extract, List.getElem_toArray]
    rw [← hb2]
    rfl
theorem At.self (l : List UInt8) : At ⟨l.toArray⟩ 0 l := by
  refine ⟨by simp [ByteArray.size], fun i b hi => ?_⟩
  rw [Nat.zero_add, byteI_list, hi]
  rfl
theorem At.run {S : ByteArray} {p : Int → Bool} : ∀ {l : List UInt8} {k : Nat}, At S k l → (∀ b, b ∈ l → p (b.toNat : Int) = true) → (k + l.length = S.size ∨ p (byteI S (k + l.length)) = false) → runTo p S k = k + l.length
  | [], k, h, _, he => by
    simp only [List.length_nil, Nat.add_zero] at he ⊢
    by_cases hk : k < S.size
    · rcases he with he | he
      · omega
      · exact runTo_stop hk (by rw [← byteI_lt hk]; exact he)
    · exact runTo_end hk
  | b :: r, k, h, hp, he => by
    have h1 := h.1
    have hk : k < S.size := by simp at h1; omega
    have hb : p (S[k].toNat : Int) = true := by
      rw [← byteI_lt hk, h.head]
      exact hp b (List.mem_cons_self ..)
    have e : k + (b :: r).length = (k + 1) + r.length := by simp; omega
    rw [runTo_go hk hb, e]
    exact At.run h.tail (fun x hx => hp x (List.mem_cons_of_mem _ hx)) (by rw [← e]; exact he)
theorem skp_here {S : ByteArray} {k : Nat} (h : isBl (byteI S k) = false) : skp S k = k := by
  unfold skp
  by_cases hk : k < S.size
  · exact runTo_stop hk (by rw [← byteI_lt hk]; exact h)
  · exact runTo_end hk
theorem skp_one {S : ByteArray} {k : Nat} (h : byteI S k = 32) (h2 : isBl (byteI S (k + 1)) = false) : skp S k = k + 1 := by
  have hk := byteI_in h (by decide)
  have e : skp S k = skp S (k + 1) := by
    unfold skp
    exact runTo_go hk (by rw [← byteI_lt hk, h]; decide)
  rw [e, skp_here h2]
theorem skp_idem (S : ByteArray) (k : Nat) : skp S (skp S k) = skp S k := by
  have h : ∀ (n k : Nat), S.size - k = n → skp S (skp S k) = skp S k := by
    intro n
    induction n with
    | zero =>
      intro k hk
      unfold skp
      rw [runTo_end (by omega : ¬ k < S.size)]
      exact runTo_end (by omega)
    | succ n ih =>
      intro k hk
      have hlt : k < S.size := by omega
      by_cases hb : isBl (S[k].toNat : Int) = true
      · have e : skp S k = skp S (k + 1) := runTo_go hlt hb
        rw [e]
        exact ih (k + 1) (by omega)
      · have e : skp S k = k := runTo_stop hlt (by simpa using hb)
        rw [e]
        exact e
  exact h _ k rfl
end Go.Proofs.YtpccdhkghlbhkaaGreatDoor

namespace Go.Proofs.YtpccdhkghlbhkaaGreatDoor
open Go.RowKit Go.Extern.Stop Go.Stop Go.Extern

theorem qis0 (s : ByteArray) (a n b : Nat) (d : Int) (hd : d ≠ 0) (ha : a ≤ s.size) (w : World) (h : Qn w b s a n 0) :
    Calls Tryz.prog 47 #[.pointer (some ⟨b, 0, none⟩), .int .u8 d] w fun e w' => e = .returned (.bool (decide (byteI s a = d))) ∧ Below w.heap.size w w' := qis_any s a n b 0 d hd ha w h
set_option maxRecDepth 100000 in
set_option maxHeartbeats 4000000 in
theorem qpart_46 (s : ByteArray) (deep a n b : Nat) (hs : s.size ≤ 100000) (ha : a ≤ s.size) (hn : n ≤ 100) (h46 : byteI s a = 46) (w : World) (h : Qn w b s a n 0) :
    Calls Tryz.prog 82 #[.pointer (some ⟨b, 0, none⟩), .int .i64 deep] w (QxOut w b s (cnt (a + 1) n (.mk 0 false [] []) a)) := by
  have hin := byteI_in h46 (by decide)
  have H0 := Lib.hid (qp_start w h)
  obtain ⟨c0, c1, c2, c3⟩ := (h.step (sbelow_new w (.cells #[.int .i64 0, .bool false, .slice none 0 0, .slice none 0 0] 33))).cells
  have HIS := Lib.hid (fun d (hd : d ≠ 0) W (h : Qn W b s a n 0) => qis0 s a n b d hd ha W h)
  have hab : (a : Int) ≤ 100000 := by omega
  have HCO := Lib.hid (fun W (h : Qn W b s (a + 1) n 0) => qcount_out s (a + 1) n b a hn W h)
  have HBS : Hid (a + 1 ≤ s.size ∧ a ≤ s.size) := Lib.hid ⟨hin, ha⟩
  have HNN := Lib.hid hn
  rw [h46] at HIS
  clear h ha hin h46 hs
  go_enter Tryz.func82, Tryz.ntmps82
  go_wp2_with fail
  generalize (w.alloc (.cells #[.int .i64 0, .bool false, .slice none 0 0, .slice none 0 0] 33)).alloc (.cells #[.int .i64 0, .bool false, .slice none 0 0, .slice none 0 0] 33) = w1 at *
  clear c0 c1 c2 c3
  refine (HIS.out 40 (by decide) _ H0.out.rd).mono ?_
  rintro e w2 ⟨rfl, b2⟩
  have H2 := Lib.hid (H0.out.step b2)
  clear b2 H0
  go_wp2_with fail
  refine (HIS.out 46 (by decide) _ H2.out.rd).mono ?_
  rintro e w3 ⟨rfl, b9⟩
  have H3 := Lib.hid (H2.out.step b9)
  clear b9 H2
  obtain ⟨c0, c1, c2, c3⟩ := H3.out.rd.cells
  have f1 := H3.out.rd.fz 1
  have h4 : QpSt w b s (a + 1) n 0 (w.heap.size + 1) (.int .i64 0) (.bool false) (.slice none 0 0) (.slice none 0 0) (w3.setCell ⟨b, 1, none⟩ (.int .i64 ((a : Int) + 1))) := H3.out.go (H3.out.rd.at1 (a + 1)) (keepsQ w3 b 1 _)
  have H4 := Lib.hid h4
  clear h4 H3
  go_upto_region 24 with (fail)
  generalize w3.setCell ⟨b, 1, none⟩ (.int .i64 ((a : Int) + 1)) = w4 at *
  clear c0 c1 c2 c3 f1
  go_wp2_with fail
  refine (HCO.out _ H4.out.rd).mono ?_
  rintro e w5 ⟨rfl, hr5, hk5⟩
  have H5 := Lib.hid (H4.out.go hr5 hk5)
  clear hr5 hk5 H4
  obtain ⟨x0, x1, x2, x3⟩ := H5.out.x.cells
  have r0 := H5.out.res.cells.1
  have r1 := H5.out.res.cells.2.1
  have r2 := H5.out.res.cells.2.2.1
  have r3 := H5.out.res.cells.2.2.2
  have rf0 := H5.out.res.fz 0
  have rf1 := H5.out.res.fz 1
  have rf2 := H5.out.res.fz 2
  have rf3 := H5.out.res.fz 3
  by_cases hb : 100 < n + 1
  · rw [if_pos hb, if_pos hb] at H5
    have HE : Hid (cnt (a + 1) n (Rx.mk 0 false [] []) a = .er 6 a) := Lib.hid (by unfold cnt; rw [if_pos hb])
    obtain ⟨q0, q1, q2, q3⟩ := (H5.out.res.set4 (.int .i64 0) (.bool false) (.slice none 0 0) (.slice none 0 0)).cells
    have hout := qp_er (k := 0) (t := false) (a1 := none) (l1 := 0) (e1 := 0) (a2 := none) (l2 := 0) (e2 := 0) H5.out (by decide) HBS.out.2
    unfold set4 at q0 q1 q2 q3 hout
    clear hb
    go_wp2_with fail
    refine bodyPost_ret (v := .agg #[.int .i64 0, .bool false, .slice none 0 0, .slice none 0 0]) (by simp [results, Tryz.results82, go_sem, q0, q1, q2, q3]) rfl ?_
    rw [HE.out]
    exact hout
  · rw [if_neg hb, if_neg hb] at H5
    have HE : Hid (cnt (a + 1) n (Rx.mk 0 false [] []) a = .ok (a + 1) (n + 1) (.mk 0 false [] [])) := Lib.hid (by unfold cnt; rw [if_neg hb])
    obtain ⟨q0, q1, q2, q3⟩ := (H5.out.res.set4 (.int .i64 0) (.bool false) (.slice none 0 0) (.slice none 0 0)).cells
    have hv : ExC (fun q => w.heap.size < q) w5 [.int .i64 0, .bool false, .slice none 0 0, .slice none 0 0] (.mk 0 false [] []) := by
      unfold ExC
      exact ⟨_, _, [], rfl, CapV.nil, RowX.nil _ _, RowX.nil _ _, ExsC.nil⟩
    have hout := qp_ok H5.out hv HBS.out.1 (by omega)
    unfold set4 at q0 q1 q2 q3 hout
    clear hb hv
    go_wp2_with fail
    refine bodyPost_ret (v := .agg #[.int .i64 0, .bool false, .slice none 0 0, .slice none 0 0]) (by simp [results, Tryz.results82, go_sem, q0, q1, q2, q3]) rfl ?_
    rw [HE.out]
    exact hout
end Go.Proofs.YtpccdhkghlbhkaaGreatDoor

namespace Go.Proofs.YtpccdhkghlbhkaaGreatDoor
open Go.RowKit Go.Extern.Stop Go.Stop Go.Extern

theorem wdA_le {s : ByteArray} {j : Nat} (hj : j ≤ s.size) (h : wdC s j ≠ 0) : wdA s j ≤ s.size := by
  unfold wdA
  unfold wdC at h
  split
  · exact wd1_le hj
  · rename_i h1
    rw [if_neg h1] at h
    split at h
    · exact wd2_in (by assumption)
    · exact absurd rfl h
theorem chR_ale {s : ByteArray} : ∀ (f k : Nat) (seen : List ByteArray) (c : Int) (a : Nat), k ≤ s.size → chR s f k seen = .er c a → a ≤ s.size
  | 0, k, seen, c, a, h1, h => by
    rw [chR] at h
    injection h with h3 h4
    omega
  | f + 1, k, seen, c, a, h1, h => by
    rw [chR] at h
    have h4 := skp_le h1
    have h5 := wdK_le h4.2
    have h6 := skp_le h5.2
    split at h
    · rename_i h2
      injection h with h3 h7
      rw [← h7]; exact wdA_le h4.2 h2
    · split at h
      · injection h with h3 h7
        omega
      · split at h
        · rename_i h2
          have h3 := byteI_in h2 (by decide : (44 : Int) ≠ 0)
          exact chR_ale f _ _ c a (by omega) h
        · split at h
          · cases h
          · injection h with h3 h7
            omega
theorem notK_le {s : ByteArray} {k : Nat} (h : k ≤ s.size) : notK s k ≤ s.size := by
  unfold notK
  split
  · have := byteI_in (by assumption) (by decide : (94 : Int) ≠ 0); omega
  · exact h
set_option maxRecDepth 100000 in
set_option maxHeartbeats 4000000 in
theorem qpart_91 (s : ByteArray) (deep a n b : Nat) (hs : s.size ≤ 100000) (ha : a ≤ s.size) (hn : n ≤ 100) (h91 : byteI s a = 91) (w : World) (h : Qn w b s a n 0) :
    Calls Tryz.prog 82 #[.pointer (some ⟨b, 0, none⟩), .int .i64 deep] w (QxOut w b s (match chR s (s.size + 1) (notK s (a + 1)) [] with | .er c p => .er c p | .ok k' _ ws => cnt k' n (.mk 1 (decide (byteI s (skp s (a + 1)) = 94)) (srt ws) []) a)) := by
  have hin := byteI_in h91 (by decide)
  have H0 := Lib.hid (qp_start w h)
  obtain ⟨c0, c1, c2, c3⟩ := (h.step (sbelow_new w (.cells #[.int .i64 0, .bool false, .slice none 0 0, .slice none 0 0] 33))).cells
  have HIS := Lib.hid (fun d (hd : d ≠ 0) W (h : Qn W b s a n 0) => qis0 s a n b d hd ha W h)
  have hab : (a : Int) ≤ 100000 := by omega
  have HCO := Lib.hid (fun (p : Nat) W (h : Qn W b s p n 0) => qcount_out s p n b a hn W h)
  have HCN := Lib.hid (fun (p : Nat) (c : Int) (hc : c ≠ 0) W (h : Qn W b s p n c) => qcount_no s p n b c a hc W h)
  have hQ := fun W (h : Qn W b s (a + 1) n 0) => qset_any s (a + 1) n b hs hin W h
  have HA := Lib.hid ha
  have HNN := Lib.hid hn
  have hER : ∀ c p, chR s (s.size + 1) (notK s (a + 1)) [] = .er c p → p ≤ s.size := fun c p e => chR_ale _ _ _ _ _ (notK_le hin) e
  have hOK : ∀ k' n' ws, chR s (s.size + 1) (notK s (a + 1)) [] = .ok k' n' ws → k' ≤ s.size := fun k' n' ws e => chR_le _ _ _ _ _ _ e
  rw [h91] at HIS
  generalize decide (byteI s (skp s (a + 1)) = 94) = neg at *
  generalize chR s (s.size + 1) (notK s (a + 1)) [] = R at *
  have HSET := Lib.hid hQ
  have HER := Lib.hid hER
  have HOK := Lib.hid hOK
  clear h ha hin h91 hs hQ hn hER hOK
  go_enter Tryz.func82, Tryz.ntmps82
  go_wp2_with fail
  generalize (w.alloc (.cells #[.int .i64 0, .bool false, .slice none 0 0, .slice none 0 0] 33)).alloc (.cells #[.int .i64 0, .bool false, .slice none 0 0, .slice none 0 0] 33) = w1 at *
  clear c0 c1 c2 c3
  refine (HIS.out 40 (by decide) _ H0.out.rd).mono ?_
  rintro e w2 ⟨rfl, b2⟩
  have H2 := Lib.hid (H0.out.step b2)
  clear b2 H0
  go_wp2_with fail
  refine (HIS.out 46 (by decide) _ H2.out.rd).mono ?_
  rintro e w3 ⟨rfl, b9⟩
  have H3 := Lib.hid (H2.out.step b9)
  clear b9 H2
  go_wp2_with fail
  refine (HIS.out 91 (by decide) _ H3.out.rd).mono ?_
  rintro e w4 ⟨rfl, b9⟩
  have H4 := Lib.hid (H3.out.step b9)
  clear b9 H3
  obtain ⟨c0, c1, c2, c3⟩ := H4.out.rd.cells
  have f1 := H4.out.rd.fz 1
  have h5 : QpSt w b s (a + 1) n 0 (w.heap.size + 1) (.int .i64 0) (.bool false) (.slice none 0 0) (.slice none 0 0) (w4.setCell ⟨b, 1, none⟩ (.int .i64 ((a : Int) + 1))) := H4.out.go (H4.out.rd.at1 (a + 1)) (keepsQ w4 b 1 _)
  have H5 := Lib.hid h5
  clear h5 H4
  go_upto_region 22 with (fail)
  generalize w4.setCell ⟨b, 1, none⟩ (.int .i64 ((a : Int) + 1)) = w5 at *
  clear c0 c1 c2 c3 f1
  go_wp2_with fail
  refine (HSET.out _ H5.out.rd).mono ?_
  intro e w6 hq
  rcases R with ⟨c, p⟩ | ⟨k', n', ws⟩
  · obtain ⟨k, t, a1, l1, e1, a2, l2, e2, rfl, hr6, hc6, hk6⟩ := hq
    have H6 := Lib.hid (H5.out.go hr6 hk6)
    have HC6 := Lib.hid hc6
    clear hr6 hk6 hc6 H5
    obtain ⟨x0, x1, x2, x3⟩ := H6.out.x.cells
    have xf0 := H6.out.x.fz 0
    have xf1 := H6.out.x.fz 1
    have xf2 := H6.out.x.fz 2
    have xf3 := H6.out.x.fz 3
    have h7 := H6.out.set (.int .i64 k) (.bool t) (.slice a1 l1 e1) (.slice a2 l2 e2)
    unfold set4 at h7
    have H7 := Lib.hid h7
    clear h7 H6
    go_upto_region 24 with (fail)
    generalize (((w6.setCell ⟨w.heap.size + 1, 0, none⟩ (.int .i64 k)).setCell ⟨w.heap.size + 1, 0 + 1, none⟩ (.bool t)).setCell ⟨w.heap.size + 1, 0 + 2, none⟩ (.slice a1 l1 e1)).setCell ⟨w.heap.size + 1, 0 + 3, none⟩ (.slice a2 l2 e2) = w7 at *
    clear x0 x1 x2 x3 xf0 xf1 xf2 xf3
    go_wp2_with fail
    refine (HCN.out _ _ HC6.out _ H7.out.rd).mono ?_
    rintro e w8 ⟨rfl, rfl⟩
    obtain ⟨x0, x1, x2, x3⟩ := H7.out.x.cells
    have r0 := H7.out.res.cells.1
    have r1 := H7.out.res.cells.2.1
    have r2 := H7.out.res.cells.2.2.1
    have r3 := H7.out.res.cells.2.2.2
    have rf0 := H7.out.res.fz 0
    have rf1 := H7.out.res.fz 1
    have rf2 := H7.out.res.fz 2
    have rf3 := H7.out.res.fz 3
    obtain ⟨q0, q1, q2, q3⟩ := (H7.out.res.set4 (.int .i64 k) (.bool t) (.slice a1 l1 e1) (.slice a2 l2 e2)).cells
    have hout := qp_er (k := k) (t := t) (a1 := a1) (l1 := l1) (e1 := e1) (a2 := a2) (l2 := l2) (e2 := e2) H7.out HC6.out (HER.out _ _ rfl)
    unfold set4 at q0 q1 q2 q3 hout
    go_wp2_with fail
    refine bodyPost_ret (v := .agg #[.int .i64 k, .bool t, .slice a1 l1 e1, .slice a2 l2 e2]) (by simp [results, Tryz.results82, go_sem, q0, q1, q2, q3]) rfl ?_
    exact hout
  · obtain ⟨k, t, a1, l1, e1, a2, l2, e2, rfl, hv6, hr6, hk6⟩ := hq
    have H6 := Lib.hid (H5.out.go hr6 hk6)
    have HZ : Hid (b < w.heap.size ∧ w.heap.size + 1 < w5.heap.size) := Lib.hid ⟨H5.out.ord.1, H5.out.x.lt⟩
    have HV7 := Lib.hid (hv6.keepsD (keeps_set4 w6 (w.heap.size + 1) 0 (.int .i64 k) (.bool t) (.slice a1 l1 e1) (.slice a2 l2 e2)) (fun q hq e => by have := HZ.out; omega))
    clear hr6 hk6 hv6 H5
    obtain ⟨x0, x1, x2, x3⟩ := H6.out.x.cells
    have xf0 := H6.out.x.fz 0
    have xf1 := H6.out.x.fz 1
    have xf2 := H6.out.x.fz 2
    have xf3 := H6.out.x.fz 3
    have h7 := H6.out.set (.int .i64 k) (.bool t) (.slice a1 l1 e1) (.slice a2 l2 e2)
    unfold set4 at h7 HV7
    have H7 := Lib.hid h7
    clear h7 H6
    go_upto_region 24 with (fail)
    generalize (((w6.setCell ⟨w.heap.size + 1, 0, none⟩ (.int .i64 k)).setCell ⟨w.heap.size + 1, 0 + 1, none⟩ (.bool t)).setCell ⟨w.heap.size + 1, 0 + 2, none⟩ (.slice a1 l1 e1)).setCell ⟨w.heap.size + 1, 0 + 3, none⟩ (.slice a2 l2 e2) = w7 at *
    clear x0 x1 x2 x3 xf0 xf1 xf2 xf3
    go_wp2_with fail
    refine (HCO.out _ _ H7.out.rd).mono ?_
    rintro e w8 ⟨rfl, hr8, hk8⟩
    have H8 := Lib.hid (H7.out.go hr8 hk8)
    have HV8 := Lib.hid ((HV7.out.keepsD hk8 (fun q hq e => by have := HZ.out; omega)).weak (P' := fun q => w.heap.size < q) (fun q hq => by have := HZ.out; omega))
    clear hr8 hk8 H7 HV7
    obtain ⟨x0, x1, x2, x3⟩ := H8.out.x.cells
    have r0 := H8.out.res.cells.1
    have r1 := H8.out.res.cells.2.1
    have r2 := H8.out.res.cells.2.2.1
    have r3 := H8.out.res.cells.2.2.2
    have rf0 := H8.out.res.fz 0
    have rf1 := H8.out.res.fz 1
    have rf2 := H8.out.res.fz 2
    have rf3 := H8.out.res.fz 3
    by_cases hb : 100 < n + 1
    · rw [if_pos hb, if_pos hb] at H8
      have HE : Hid (cnt k' n (Rx.mk 1 neg (srt ws) []) a = .er 6 a) := Lib.hid (by unfold cnt; rw [if_pos hb])
      obtain ⟨q0, q1, q2, q3⟩ := (H8.out.res.set4 (.int .i64 k) (.bool t) (.slice a1 l1 e1) (.slice a2 l2 e2)).cells
      have hout := qp_er (k := k) (t := t) (a1 := a1) (l1 := l1) (e1 := e1) (a2 := a2) (l2 := l2) (e2 := e2) H8.out (by decide) HA.out
      unfold set4 at q0 q1 q2 q3 hout
      clear hb
      go_wp2_with fail
      refine bodyPost_ret (v := .agg #[.int .i64 k, .bool t, .slice a1 l1 e1, .slice a2 l2 e2]) (by simp [results, Tryz.results82, go_sem, q0, q1, q2, q3]) rfl ?_
      show QxOut w b s (cnt k' n (Rx.mk 1 neg (srt ws) []) a) _ _
      rw [HE.out]
      exact hout
    · rw [if_neg hb, if_neg hb] at H8
      have HE : Hid (cnt k' n (Rx.mk 1 neg (srt ws) []) a = .ok k' (n + 1) (.mk 1 neg (srt ws) [])) := Lib.hid (by unfold cnt; rw [if_neg hb])
      obtain ⟨q0, q1, q2, q3⟩ := (H8.out.res.set4 (.int .i64 k) (.bool t) (.slice a1 l1 e1) (.slice a2 l2 e2)).cells
      have hout := qp_ok H8.out HV8.out (HOK.out _ _ _ rfl) (by omega)
      unfold set4 at q0 q1 q2 q3 hout
      clear hb
      go_wp2_with fail
      refine bodyPost_ret (v := .agg #[.int .i64 k, .bool t, .slice a1 l1 e1, .slice a2 l2 e2]) (by simp [results, Tryz.results82, go_sem, q0, q1, q2, q3]) rfl ?_
      show QxOut w b s (cnt k' n (Rx.mk 1 neg (srt ws) []) a) _ _
      rw [HE.out]
      exact hout
end Go.Proofs.YtpccdhkghlbhkaaGreatDoor

namespace Go.Proofs.YtpccdhkghlbhkaaGreatDoor
open Go.RowKit Go.Extern.Stop Go.Stop Go.Extern

set_option maxRecDepth 100000 in
set_option maxHeartbeats 4000000 in
theorem qpart_word (s : ByteArray) (deep a n b : Nat) (hs : s.size ≤ 100000) (ha : a ≤ s.size) (hn : n ≤ 100) (n40 : ¬ byteI s a = 40) (n46 : ¬ byteI s a = 46) (n91 : ¬ byteI s a = 91) (w : World) (h : Qn w b s a n 0) :
    Calls Tryz.prog 82 #[.pointer (some ⟨b, 0, none⟩), .int .i64 deep] w (QxOut w b s (if wdC s a ≠ 0 then .er (wdC s a) (wdA s a) else cnt (wdK s a) n (.mk 1 false [s.extract a (wdK s a)] []) a)) := by
  have H0 := Lib.hid (qp_start w h)
  obtain ⟨c0, c1, c2, c3⟩ := (h.step (sbelow_new w (.cells #[.int .i64 0, .bool false, .slice none 0 0, .slice none 0 0] 33))).cells
  have HIS := Lib.hid (fun d (hd : d ≠ 0) W (h : Qn W b s a n 0) => qis0 s a n b d hd ha W h)
  have hab : (a : Int) ≤ 100000 := by omega
  obtain ⟨R, HRR⟩ : ∃ R, Hid ((if wdC s a ≠ 0 then RO.er (wdC s a) (wdA s a) else cnt (wdK s a) n (Rx.mk 1 false [s.extract a (wdK s a)] []) a) = R) := ⟨_, Lib.hid rfl⟩
  rw [HRR.out]
  have HCO := Lib.hid (fun (p : Nat) W (h : Qn W b s p n 0) => qcount_out s p n b a hn W h)
  have HCN := Lib.hid (fun (p : Nat) (c : Int) (hc : c ≠ 0) W (h : Qn W b s p n c) => qcount_no s p n b c a hc W h)
  have HA := Lib.hid ha
  have HNN := Lib.hid hn
  have hW : ∀ W, Qn W b s a n 0 → ∃ t p c, (wdC s a ≠ 0 → c ≠ 0 ∧ c = wdC s a ∧ p = wdA s a) ∧ (wdC s a = 0 → c = 0 ∧ p = wdK s a ∧ t = s.extract a (wdK s a)) ∧ p ≤ s.size ∧ Calls Tryz.prog 97 #[.pointer (some ⟨b, 0, none⟩)] W (QwOut b n s t p c W) := by
    intro W hW
    by_cases hc : wdC s a = 0
    · exact ⟨_, _, _, fun e => absurd hc e, fun _ => ⟨rfl, rfl, rfl⟩, (wdK_le ha).2, qword_ok s a n b hs ha hc W hW⟩
    · obtain ⟨t, ht⟩ := qword_er s a n b hs ha hc W hW
      exact ⟨t, _, _, fun _ => ⟨hc, rfl, rfl⟩, fun e => absurd e hc, wdA_le ha hc, ht⟩
  have HW := Lib.hid hW
  have e40 := decide_eq_false n40
  have e46 := decide_eq_false n46
  have e91 := decide_eq_false n91
  have H40 := Lib.hid (fun W h => HIS.out 40 (by decide) W h)
  have H46 := Lib.hid (fun W h => HIS.out 46 (by decide) W h)
  have H91 := Lib.hid (fun W h => HIS.out 91 (by decide) W h)
  rw [e40] at H40
  rw [e46] at H46
  rw [e91] at H91
  clear h ha hs hn hW HIS e40 e46 e91 n40 n46 n91
  go_enter Tryz.func82, Tryz.ntmps82
  go_wp2_with fail
  generalize (w.alloc (.cells #[.int .i64 0, .bool false, .slice none 0 0, .slice none 0 0] 33)).alloc (.cells #[.int .i64 0, .bool false, .slice none 0 0, .slice none 0 0] 33) = w1 at *
  clear c0 c1 c2 c3
  refine (H40.out _ H0.out.rd).mono ?_
  rintro e w2 ⟨rfl, b9⟩
  have H2 := Lib.hid (H0.out.step b9)
  clear b9 H0
  go_wp2_with fail
  refine (H46.out _ H2.out.rd).mono ?_
  rintro e w3 ⟨rfl, b9⟩
  have H3 := Lib.hid (H2.out.step b9)
  clear b9 H2
  go_wp2_with fail
  refine (H91.out _ H3.out.rd).mono ?_
  rintro e w4 ⟨rfl, b9⟩
  have H4 := Lib.hid (H3.out.step b9)
  clear b9 H3
  obtain ⟨t, p, c, hE, hO, hp, hw⟩ := HW.out _ H4.out.rd
  have HE := Lib.hid hE
  have HO := Lib.hid hO
  have HP := Lib.hid hp
  have HWD := Lib.hid hw
  clear hE hO hp hw HW
  go_wp2_with fail
  refine HWD.out.mono ?_
  rintro e w5 ⟨rfl, hr5, hk5⟩
  have bn := sbelow_new w5 (.cells #[.string t] 9)
  have H5 := Lib.hid ((H4.out.go hr5 hk5).step bn)
  have HZ : Hid (b < w.heap.size ∧ w.heap.size + 1 < w5.heap.size) := Lib.hid ⟨H4.out.ord.1, by have := H4.out.x.lt; have := hk5.size; omega⟩
  have hc5 : (w5.alloc (.cells #[.string t] 9)).heap[w5.heap.size]? = some (.cells #[.string t] 9 (0, 0)) := heap_alloc_new w5 _
  have hl5 : w5.heap.size < (w5.alloc (.cells #[.string t] 9)).heap.size := by rw [World.size_alloc]; omega
  have hv5 : ExC (fun q => w5.heap.size ≤ q) (w5.alloc (.cells #[.string t] 9)) [.int .i64 1, .bool false, .slice (some ⟨w5.heap.size, 0, none⟩) 1 1, .slice none 0 0] (.mk 1 false [t] []) := by
    unfold ExC
    refine ⟨_, _, [], rfl, ⟨_, _, rfl, Nat.le_refl _⟩, .inr ⟨w5.heap.size, 0, 1, rfl, Nat.le_refl _, hl5, fun j u hu => ?_⟩, RowX.nil _ _, ExsC.nil⟩
    match j, hu with
    | 0, hu =>
      simp at hu
      subst hu
      unfold World.cell?
      rw [hc5]
      rfl
  have HV6 := Lib.hid (hv5.keepsD (keeps_set4 (w5.alloc (.cells #[.string t] 9)) (w.heap.size + 1) 0 (.int .i64 1) (.bool false) (.slice (some ⟨w5.heap.size, 0, none⟩) 1 1) (.slice none 0 0)) (fun q hq e => by have := HZ.out; omega))
  clear hr5 hk5 H4 bn hc5 hl5 hv5
  obtain ⟨x0, x1, x2, x3⟩ := H5.out.x.cells
  have xf0 := H5.out.x.fz 0
  have xf1 := H5.out.x.fz 1
  have xf2 := H5.out.x.fz 2
  have xf3 := H5.out.x.fz 3
  have h7 := H5.out.set (.int .i64 1) (.bool false) (.slice (some ⟨w5.heap.size, 0, none⟩) 1 1) (.slice none 0 0)
  unfold set4 at h7 HV6
  have H7 := Lib.hid h7
  clear h7 H5
  go_upto_region 24 with (fail)
  generalize ((((w5.alloc (.cells #[.string t] 9)).setCell ⟨w.heap.size + 1, 0, none⟩ (.int .i64 1)).setCell ⟨w.heap.size + 1, 0 + 1, none⟩ (.bool false)).setCell ⟨w.heap.size + 1, 0 + 2, none⟩ (.slice (some ⟨w5.heap.size, 0, none⟩) 1 1)).setCell ⟨w.heap.size + 1, 0 + 3, none⟩ (.slice none 0 0) = w7 at *
  generalize w5.heap.size = sb at *
  clear x0 x1 x2 x3 xf0 xf1 xf2 xf3
  by_cases hc : wdC s a = 0
  · obtain ⟨rfl, rfl, rfl⟩ := HO.out hc
    have HRC := Lib.hid (HRR.out.symm.trans (if_neg (fun e => e hc)))
    clear HRR
    generalize s.extract a (wdK s a) = t at *
    generalize wdK s a = k' at *
    clear HE HO hc
    go_wp2_with fail
    refine (HCO.out _ _ H7.out.rd).mono ?_
    rintro e w8 ⟨rfl, hr8, hk8⟩
    have H8 := Lib.hid (H7.out.go hr8 hk8)
    have HV8 := Lib.hid ((HV6.out.keepsD hk8 (fun q hq e => by have := HZ.out; omega)).weak (P' := fun q => w.heap.size < q) (fun q hq => by have := HZ.out; omega))
    clear hr8 hk8 H7 HV6
    obtain ⟨x0, x1, x2, x3⟩ := H8.out.x.cells
    have r0 := H8.out.res.cells.1
    have r1 := H8.out.res.cells.2.1
    have r2 := H8.out.res.cells.2.2.1
    have r3 := H8.out.res.cells.2.2.2
    have rf0 := H8.out.res.fz 0
    have rf1 := H8.out.res.fz 1
    have rf2 := H8.out.res.fz 2
    have rf3 := H8.out.res.fz 3
    by_cases hb : 100 < n + 1
    · rw [if_pos hb, if_pos hb] at H8
      have HE : Hid (cnt k' n (Rx.mk 1 false [t] []) a = .er 6 a) := Lib.hid (by unfold cnt; rw [if_pos hb])
      obtain ⟨q0, q1, q2, q3⟩ := (H8.out.res.set4 (.int .i64 1) (.bool false) (.slice (some ⟨sb, 0, none⟩) 1 1) (.slice none 0 0)).cells
      have hout := qp_er (k := 1) (t := false) (a1 := some ⟨sb, 0, none⟩) (l1 := 1) (e1 := 1) (a2 := none) (l2 := 0) (e2 := 0) H8.out (by decide) HA.out
      unfold set4 at q0 q1 q2 q3 hout
      clear hb
      go_wp2_with fail
      refine bodyPost_ret (v := .agg #[.int .i64 1, .bool false, .slice (some ⟨sb, 0, none⟩) 1 1, .slice none 0 0]) (by simp [results, Tryz.results82, go_sem, q0, q1, q2, q3]) rfl ?_
      rw [HRC.out, HE.out]
      exact hout
    · rw [if_neg hb, if_neg hb] at H8
      have HE : Hid (cnt k' n (Rx.mk 1 false [t] []) a = .ok k' (n + 1) (.mk 1 false [t] [])) := Lib.hid (by unfold cnt; rw [if_neg hb])
      obtain ⟨q0, q1, q2, q3⟩ := (H8.out.res.set4 (.int .i64 1) (.bool false) (.slice (some ⟨sb, 0, none⟩) 1 1) (.slice none 0 0)).cells
      have hout := qp_ok H8.out HV8.out HP.out (by omega)
      unfold set4 at q0 q1 q2 q3 hout
      clear hb
      go_wp2_with fail
      refine bodyPost_ret (v := .agg #[.int .i64 1, .bool false, .slice (some ⟨sb, 0, none⟩) 1 1, .slice none 0 0]) (by simp [results, Tryz.results82, go_sem, q0, q1, q2, q3]) rfl ?_
      rw [HRC.out, HE.out]
      exact hout
  · obtain ⟨hc6, rfl, rfl⟩ := HE.out hc
    have HRC := Lib.hid (HRR.out.symm.trans (if_pos hc))
    clear HRR
    have HC6 := Lib.hid hc6
    generalize wdC s a = c at *
    generalize wdA s a = p at *
    clear HE HO hc hc6
    go_wp2_with fail
    refine (HCN.out _ _ HC6.out _ H7.out.rd).mono ?_
    rintro e w8 ⟨rfl, rfl⟩
    obtain ⟨x0, x1, x2, x3⟩ := H7.out.x.cells
    have r0 := H7.out.res.cells.1
    have r1 := H7.out.res.cells.2.1
    have r2 := H7.out.res.cells.2.2.1
    have r3 := H7.out.res.cells.2.2.2
    have rf0 := H7.out.res.fz 0
    have rf1 := H7.out.res.fz 1
    have rf2 := H7.out.res.fz 2
    have rf3 := H7.out.res.fz 3
    obtain ⟨q0, q1, q2, q3⟩ := (H7.out.res.set4 (.int .i64 1) (.bool false) (.slice (some ⟨sb, 0, none⟩) 1 1) (.slice none 0 0)).cells
    have hout := qp_er (k := 1) (t := false) (a1 := some ⟨sb, 0, none⟩) (l1 := 1) (e1 := 1) (a2 := none) (l2 := 0) (e2 := 0) H7.out HC6.out HP.out
    unfold set4 at q0 q1 q2 q3 hout
    go_wp2_with fail
    refine bodyPost_ret (v := .agg #[.int .i64 1, .bool false, .slice (some ⟨sb, 0, none⟩) 1 1, .slice none 0 0]) (by simp [results, Tryz.results82, go_sem, q0, q1, q2, q3]) rfl ?_
    rw [HRC.out]
    exact hout
end Go.Proofs.YtpccdhkghlbhkaaGreatDoor

namespace Go.Proofs.YtpccdhkghlbhkaaGreatDoor
open Go.RowKit Go.Extern.Stop Go.Stop Go.Extern

set_option maxRecDepth 100000 in
set_option maxHeartbeats 4000000 in
theorem qpart_deep (s : ByteArray) (a n b : Nat) (hs : s.size ≤ 100000) (ha : a ≤ s.size) (h40 : byteI s a = 40) (w : World) (h : Qn w b s a n 0) :
    Calls Tryz.prog 82 #[.pointer (some ⟨b, 0, none⟩), .int .i64 64] w (QxOut w b s (.er 8 a)) := by
  have H0 := Lib.hid (qp_start w h)
  obtain ⟨c0, c1, c2, c3⟩ := (h.step (sbelow_new w (.cells #[.int .i64 0, .bool false, .slice none 0 0, .slice none 0 0] 33))).cells
  have HIS := Lib.hid (fun d (hd : d ≠ 0) W (h : Qn W b s a n 0) => qis0 s a n b d hd ha W h)
  have hab : (a : Int) ≤ 100000 := by omega
  have HF := Lib.hid (fun W (h : Qn W b s a n 0) => qfail_yes s a n b 8 W h)
  have HA := Lib.hid ha
  rw [h40] at HIS
  clear h ha hs h40
  go_enter Tryz.func82, Tryz.ntmps82
  go_wp2_with fail
  generalize (w.alloc (.cells #[.int .i64 0, .bool false, .slice none 0 0, .slice none 0 0] 33)).alloc (.cells #[.int .i64 0, .bool false, .slice none 0 0, .slice none 0 0] 33) = w1 at *
  clear c0 c1 c2 c3
  refine (HIS.out 40 (by decide) _ H0.out.rd).mono ?_
  rintro e w2 ⟨rfl, b2⟩
  have H2 := Lib.hid (H0.out.step b2)
  clear b2 H0
  go_wp2_with fail
  refine (HF.out _ H2.out.rd).mono ?_
  rintro e w3 ⟨rfl, hr3, hk3⟩
  have H3 := Lib.hid (H2.out.go hr3 hk3)
  clear hr3 hk3 H2
  obtain ⟨x0, x1, x2, x3⟩ := H3.out.x.cells
  have r0 := H3.out.res.cells.1
  have r1 := H3.out.res.cells.2.1
  have r2 := H3.out.res.cells.2.2.1
  have r3 := H3.out.res.cells.2.2.2
  have rf0 := H3.out.res.fz 0
  have rf1 := H3.out.res.fz 1
  have rf2 := H3.out.res.fz 2
  have rf3 := H3.out.res.fz 3
  obtain ⟨q0, q1, q2, q3⟩ := (H3.out.res.set4 (.int .i64 0) (.bool false) (.slice none 0 0) (.slice none 0 0)).cells
  have hout := qp_er (k := 0) (t := false) (a1 := none) (l1 := 0) (e1 := 0) (a2 := none) (l2 := 0) (e2 := 0) H3.out (by decide) HA.out
  unfold set4 at q0 q1 q2 q3 hout
  go_wp2_with fail
  refine bodyPost_ret (v := .agg #[.int .i64 0, .bool false, .slice none 0 0, .slice none 0 0]) (by simp [results, Tryz.results82, go_sem, q0, q1, q2, q3]) rfl ?_
  exact hout
set_option maxRecDepth 100000 in
set_option maxHeartbeats 4000000 in
theorem qpart_4041 (s : ByteArray) (deep a n b : Nat) (hs : s.size ≤ 100000) (ha : a ≤ s.size) (hn : n ≤ 100) (hd : deep < 64) (h40 : byteI s a = 40) (h41 : byteI s (skp s (a + 1)) = 41) (w : World) (h : Qn w b s a n 0) :
    Calls Tryz.prog 82 #[.pointer (some ⟨b, 0, none⟩), .int .i64 deep] w (QxOut w b s (cnt (skp s (a + 1) + 1) n (.mk 2 false [] []) a)) := by
  have H0 := Lib.hid (qp_start w h)
  obtain ⟨c0, c1, c2, c3⟩ := (h.step (sbelow_new w (.cells #[.int .i64 0, .bool false, .slice none 0 0, .slice none 0 0] 33))).cells
  have HIS := Lib.hid (fun d (hd : d ≠ 0) W (h : Qn W b s a n 0) => qis0 s a n b d hd ha W h)
  have hab : (a : Int) ≤ 100000 := by omega
  have hin := byteI_in h40 (by decide)
  have hj := skp_le hin
  have HSK := Lib.hid (fun W (h : Qn W b s (a + 1) n 0) => qskip_yes s (a + 1) n b hs hin W h)
  have HI41 := Lib.hid (fun W (h : Qn W b s (skp s (a + 1)) n 0) => qis0 s (skp s (a + 1)) n b 41 (by decide) hj.2 W h)
  have HA := Lib.hid ha
  have HNN := Lib.hid hn
  rw [h40] at HIS
  have hin2 := byteI_in h41 (by decide)
  have HCO := Lib.hid (fun W (h : Qn W b s (skp s (a + 1) + 1) n 0) => qcount_out s (skp s (a + 1) + 1) n b a hn W h)
  rw [h41] at HI41
  generalize skp s (a + 1) = j at *
  have hjb : (j : Int) ≤ 100000 := by omega
  have hdd : (deep : Int) < 64 := by omega
  have HJ : Hid (j + 1 ≤ s.size) := Lib.hid hin2
  clear h ha hin h40 h41 hs hn hj hin2 hd
  go_enter Tryz.func82, Tryz.ntmps82
  go_wp2_with fail
  generalize (w.alloc (.cells #[.int .i64 0, .bool false, .slice none 0 0, .slice none 0 0] 33)).alloc (.cells #[.int .i64 0, .bool false, .slice none 0 0, .slice none 0 0] 33) = w1 at *
  clear c0 c1 c2 c3
  refine (HIS.out 40 (by decide) _ H0.out.rd).mono ?_
  rintro e w2 ⟨rfl, b2⟩
  have H2 := Lib.hid (H0.out.step b2)
  clear b2 H0
  obtain ⟨c0, c1, c2, c3⟩ := H2.out.rd.cells
  have f1 := H2.out.rd.fz 1
  have h3 : QpSt w b s (a + 1) n 0 (w.heap.size + 1) (.int .i64 0) (.bool false) (.slice none 0 0) (.slice none 0 0) (w2.setCell ⟨b, 1, none⟩ (.int .i64 ((a : Int) + 1))) := H2.out.go (H2.out.rd.at1 (a + 1)) (keepsQ w2 b 1 _)
  have H3 := Lib.hid h3
  clear h3 H2
  go_upto_region 8 with (fail)
  generalize w2.setCell ⟨b, 1, none⟩ (.int .i64 ((a : Int) + 1)) = w3 at *
  clear c0 c1 c2 c3 f1
  go_wp2_with fail
  refine (HSK.out _ H3.out.rd).mono ?_
  rintro e w4 ⟨rfl, hr4, hk4⟩
  have H4 := Lib.hid (H3.out.go hr4 hk4)
  clear hr4 hk4 H3
  go_wp2_with fail
  refine (HI41.out _ H4.out.rd).mono ?_
  rintro e w5 ⟨rfl, b5⟩
  have H5 := Lib.hid (H4.out.step b5)
  clear b5 H4
  obtain ⟨c0, c1, c2, c3⟩ := H5.out.rd.cells
  have f1 := H5.out.rd.fz 1
  have h6 : QpSt w b s (j + 1) n 0 (w.heap.size + 1) (.int .i64 0) (.bool false) (.slice none 0 0) (.slice none 0 0) (w5.setCell ⟨b, 1, none⟩ (.int .i64 ((j : Int) + 1))) := H5.out.go (H5.out.rd.at1 (j + 1)) (keepsQ w5 b 1 _)
  have H6 := Lib.hid h6
  clear h6 H5
  go_upto_region 11 with (fail)
  generalize w5.setCell ⟨b, 1, none⟩ (.int .i64 ((j : Int) + 1)) = w6 at *
  clear c0 c1 c2 c3 f1
  go_wp2_with fail
  refine (HCO.out _ H6.out.rd).mono ?_
  rintro e w7 ⟨rfl, hr7, hk7⟩
  have H7 := Lib.hid (H6.out.go hr7 hk7)
  clear hr7 hk7 H6
  obtain ⟨x0, x1, x2, x3⟩ := H7.out.x.cells
  have r0 := H7.out.res.cells.1
  have r1 := H7.out.res.cells.2.1
  have r2 := H7.out.res.cells.2.2.1
  have r3 := H7.out.res.cells.2.2.2
  have rf0 := H7.out.res.fz 0
  have rf1 := H7.out.res.fz 1
  have rf2 := H7.out.res.fz 2
  have rf3 := H7.out.res.fz 3
  by_cases hb : 100 < n + 1
  · rw [if_pos hb, if_pos hb] at H7
    have HE : Hid (cnt (j + 1) n (Rx.mk 2 false [] []) a = .er 6 a) := Lib.hid (by unfold cnt; rw [if_pos hb])
    obtain ⟨q0, q1, q2, q3⟩ := (H7.out.res.set4 (.int .i64 2) (.bool false) (.slice none 0 0) (.slice none 0 0)).cells
    have hout := qp_er (k := 2) (t := false) (a1 := none) (l1 := 0) (e1 := 0) (a2 := none) (l2 := 0) (e2 := 0) H7.out (by decide) HA.out
    unfold set4 at q0 q1 q2 q3 hout
    clear hb
    go_wp2_with fail
    refine bodyPost_ret (v := .agg #[.int .i64 2, .bool false, .slice none 0 0, .slice none 0 0]) (by simp [results, Tryz.results82, go_sem, q0, q1, q2, q3]) rfl ?_
    rw [HE.out]
    exact hout
  · rw [if_neg hb, if_neg hb] at H7
    have HE : Hid (cnt (j + 1) n (Rx.mk 2 false [] []) a = .ok (j + 1) (n + 1) (.mk 2 false [] [])) := Lib.hid (by unfold cnt; rw [if_neg hb])
    obtain ⟨q0, q1, q2, q3⟩ := (H7.out.res.set4 (.int .i64 2) (.bool false) (.slice none 0 0) (.slice none 0 0)).cells
    have hv : ExC (fun q => w.heap.size < q) w7 [.int .i64 2, .bool false, .slice none 0 0, .slice none 0 0] (.mk 2 false [] []) := by
      unfold ExC
      exact ⟨_, _, [], rfl, CapV.nil, RowX.nil _ _, RowX.nil _ _, ExsC.nil⟩
    have hout := qp_ok H7.out hv HJ.out (by omega)
    unfold set4 at q0 q1 q2 q3 hout
    clear hb hv
    go_wp2_with fail
    refine bodyPost_ret (v := .agg #[.int .i64 2, .bool false, .slice none 0 0, .slice none 0 0]) (by simp [results, Tryz.results82, go_sem, q0, q1, q2, q3]) rfl ?_
    rw [HE.out]
    exact hout
set_option maxRecDepth 100000 in
set_option maxHeartbeats 4000000 in
theorem qpart_40s (s : ByteArray) (deep a n b : Nat) (f : Nat → Nat → RO Rx) (hs : s.size ≤ 100000) (ha : a ≤ s.size) (hn : n ≤ 100) (hd : deep < 64) (hf : ∀ (w : World) (b k n : Nat), k ≤ s.size → n ≤ 100 → Qn w b s (skp s k) n 0 → Calls Tryz.prog 32 #[.pointer (some ⟨b, 0, none⟩), .int .i64 (deep + 1 : Nat)] w (QxOut w b s (f k n))) (h40 : byteI s a = 40) (n41 : ¬ byteI s (skp s (a + 1)) = 41) (RR : RO Rx) (hRR : (match f (a + 1) n with | .er c p => RO.er c p | .ok k' n' x => if byteI s (skp s k') = 41 then .ok (skp s k' + 1) n' x else .er (missC s (skp s k')) (skp s k')) = RR) (w : World) (h : Qn w b s a n 0) :
    Calls Tryz.prog 82 #[.pointer (some ⟨b, 0, none⟩), .int .i64 deep] w (QxOut w b s RR) := by
  have H0 := Lib.hid (qp_start w h)
  obtain ⟨c0, c1, c2, c3⟩ := (h.step (sbelow_new w (.cells #[.int .i64 0, .bool false, .slice none 0 0, .slice none 0 0] 33))).cells
  have HIS := Lib.hid (fun d (hd : d ≠ 0) W (h : Qn W b s a n 0) => qis0 s a n b d hd ha W h)
  have hab : (a : Int) ≤ 100000 := by omega
  have hin := byteI_in h40 (by decide)
  have hj := skp_le hin
  have HSK := Lib.hid (fun W (h : Qn W b s (a + 1) n 0) => qskip_yes s (a + 1) n b hs hin W h)
  have HI41 := Lib.hid (fun W (h : Qn W b s (skp s (a + 1)) n 0) => qis0 s (skp s (a + 1)) n b 41 (by decide) hj.2 W h)
  have HA := Lib.hid ha
  have HNN := Lib.hid hn
  rw [h40] at HIS
  have hsub := fun W (h : Qn W b s (skp s (a + 1)) n 0) => hf W b (a + 1) n hin hn h
  rw [show ((deep + 1 : Nat) : Int) = (deep : Int) + 1 by omega] at hsub
  rw [decide_eq_false n41] at HI41
  generalize skp s (a + 1) = j at *
  have hdd : (deep : Int) < 64 := by omega
  generalize f (a + 1) n = R at *
  have HSUB := Lib.hid hsub
  have HRR := Lib.hid hRR
  have HSN := Lib.hid (fun (p n : Nat) (c : Int) (hc : c ≠ 0) W (h : Qn W b s p n c) => qskip_no s p n b c hc W h)
  have HSY := Lib.hid (fun (p n : Nat) (hp : p ≤ s.size) W (h : Qn W b s p n 0) => qskip_yes s p n b hs hp W h)
  have HTY := Lib.hid (fun (p n : Nat) (hp : p ≤ s.size) (he : byteI s p = 41) W (h : Qn W b s p n 0) => qtake_yes s p n b 41 hs (by decide) hp he W h)
  have HTN := Lib.hid (fun (p n : Nat) (hp : p ≤ s.size) (he : byteI s p ≠ 41) W (h : Qn W b s p n 0) => qtake_no s p n b 41 (by decide) hp he W h)
  have HKL := Lib.hid (fun (p : Nat) (hp : p ≤ s.size) => (skp_le hp).2)
  have HMC := Lib.hid (fun p => missC_ne s p)
  have HIN := Lib.hid (fun (p : Nat) (h : byteI s p = 41) => byteI_in h (by decide))
  clear h ha hin h40 n41 hs hn hj hd hsub hf hRR
  go_enter Tryz.func82, Tryz.ntmps82
  go_wp2_with fail
  generalize (w.alloc (.cells #[.int .i64 0, .bool false, .slice none 0 0, .slice none 0 0] 33)).alloc (.cells #[.int .i64 0, .bool false, .slice none 0 0, .slice none 0 0] 33) = w1 at *
  clear c0 c1 c2 c3
  refine (HIS.out 40 (by decide) _ H0.out.rd).mono ?_
  rintro e w2 ⟨rfl, b2⟩
  have H2 := Lib.hid (H0.out.step b2)
  clear b2 H0
  obtain ⟨c0, c1, c2, c3⟩ := H2.out.rd.cells
  have f1 := H2.out.rd.fz 1
  have h3 : QpSt w b s (a + 1) n 0 (w.heap.size + 1) (.int .i64 0) (.bool false) (.slice none 0 0) (.slice none 0 0) (w2.setCell ⟨b, 1, none⟩ (.int .i64 ((a : Int) + 1))) := H2.out.go (H2.out.rd.at1 (a + 1)) (keepsQ w2 b 1 _)
  have H3 := Lib.hid h3
  clear h3 H2
  go_upto_region 8 with (fail)
  generalize w2.setCell ⟨b, 1, none⟩ (.int .i64 ((a : Int) + 1)) = w3 at *
  clear c0 c1 c2 c3 f1
  go_wp2_with fail
  refine (HSK.out _ H3.out.rd).mono ?_
  rintro e w4 ⟨rfl, hr4, hk4⟩
  have H4 := Lib.hid (H3.out.go hr4 hk4)
  clear hr4 hk4 H3
  go_wp2_with fail
  refine (HI41.out _ H4.out.rd).mono ?_
  rintro e w5 ⟨rfl, b5⟩
  have H5 := Lib.hid (H4.out.step b5)
  clear b5 H4
  go_wp2_with fail
  refine (HSUB.out _ H5.out.rd).mono ?_
  intro e w6 hq
  rcases R with ⟨c, p⟩ | ⟨k', n', x⟩
  · obtain ⟨n', k, t, a1, l1, e1, a2, l2, e2, rfl, hr6, hc6, hp6, hk6⟩ := hq
    have H6 := Lib.hid (H5.out.go hr6 hk6)
    have HC6 := Lib.hid hc6
    have HP6 := Lib.hid hp6
    have HRC : Hid (RO.er c p = RR) := HRR
    clear hr6 hk6 hc6 hp6 H5 HRR
    obtain ⟨x0, x1, x2, x3⟩ := H6.out.x.cells
    have xf0 := H6.out.x.fz 0
    have xf1 := H6.out.x.fz 1
    have xf2 := H6.out.x.fz 2
    have xf3 := H6.out.x.fz 3
    have h7 := H6.out.set (.int .i64 k) (.bool t) (.slice a1 l1 e1) (.slice a2 l2 e2)
    unfold set4 at h7
    have H7 := Lib.hid h7
    clear h7 H6
    go_upto_region 14 with (fail)
    generalize (((w6.setCell ⟨w.heap.size + 1, 0, none⟩ (.int .i64 k)).setCell ⟨w.heap.size + 1, 0 + 1, none⟩ (.bool t)).setCell ⟨w.heap.size + 1, 0 + 2, none⟩ (.slice a1 l1 e1)).setCell ⟨w.heap.size + 1, 0 + 3, none⟩ (.slice a2 l2 e2) = w7 at *
    clear x0 x1 x2 x3 xf0 xf1 xf2 xf3
    go_wp2_with fail
    refine (HSN.out _ _ _ HC6.out _ H7.out.rd).mono ?_
    rintro e w8 ⟨rfl, rfl⟩
    obtain ⟨x0, x1, x2, x3⟩ := H7.out.x.cells
    have r0 := H7.out.res.cells.1
    have r1 := H7.out.res.cells.2.1
    have r2 := H7.out.res.cells.2.2.1
    have r3 := H7.out.res.cells.2.2.2
    have rf0 := H7.out.res.fz 0
    have rf1 := H7.out.res.fz 1
    have rf2 := H7.out.res.fz 2
    have rf3 := H7.out.res.fz 3
    have c3 := H7.out.rd.cells.2.2.2
    have hcz : (c == 0) = false := beq_eq_false_iff_ne.2 HC6.out
    obtain ⟨q0, q1, q2, q3⟩ := (H7.out.res.set4 (.int .i64 k) (.bool t) (.slice a1 l1 e1) (.slice a2 l2 e2)).cells
    have hout := qp_er (k := k) (t := t) (a1 := a1) (l1 := l1) (e1 := e1) (a2 := a2) (l2 := l2) (e2 := e2) H7.out HC6.out HP6.out
    unfold set4 at q0 q1 q2 q3 hout
    go_wp2_with fail
    refine bodyPost_ret (v := .agg #[.int .i64 k, .bool t, .slice a1 l1 e1, .slice a2 l2 e2]) (by simp [results, Tryz.results82, go_sem, q0, q1, q2, q3]) rfl ?_
    rw [← HRC.out]
    exact hout
  · obtain ⟨k, t, a1, l1, e1, a2, l2, e2, rfl, hv6, hr6, hkl, hnl, hk6⟩ := hq
    have H6 := Lib.hid (H5.out.go hr6 hk6)
    have HZ : Hid (b < w.heap.size ∧ w.heap.size + 1 < w5.heap.size) := Lib.hid ⟨H5.out.ord.1, H5.out.x.lt⟩
    have HV7 := Lib.hid (hv6.keepsD (keeps_set4 w6 (w.heap.size + 1) 0 (.int .i64 k) (.bool t) (.slice a1 l1 e1) (.slice a2 l2 e2)) (fun q hq e => by have := HZ.out; omega))
    have HK7 := Lib.hid hkl
    have HN7 := Lib.hid hnl
    have HRI : Hid ((if byteI s (skp s k') = 41 then RO.ok (skp s k' + 1) n' x else .er (missC s (skp s k')) (skp s k')) = RR) := HRR
    clear HRR
    clear hr6 hk6 hv6 H5 hkl hnl
    obtain ⟨x0, x1, x2, x3⟩ := H6.out.x.cells
    have xf0 := H6.out.x.fz 0
    have xf1 := H6.out.x.fz 1
    have xf2 := H6.out.x.fz 2
    have xf3 := H6.out.x.fz 3
    have h7 := H6.out.set (.int .i64 k) (.bool t) (.slice a1 l1 e1) (.slice a2 l2 e2)
    unfold set4 at h7 HV7
    have H7 := Lib.hid h7
    clear h7 H6
    go_upto_region 14 with (fail)
    generalize (((w6.setCell ⟨w.heap.size + 1, 0, none⟩ (.int .i64 k)).setCell ⟨w.heap.size + 1, 0 + 1, none⟩ (.bool t)).setCell ⟨w.heap.size + 1, 0 + 2, none⟩ (.slice a1 l1 e1)).setCell ⟨w.heap.size + 1, 0 + 3, none⟩ (.slice a2 l2 e2) = w7 at *
    clear x0 x1 x2 x3 xf0 xf1 xf2 xf3
    go_wp2_with fail
    refine (HSY.out _ _ HK7.out _ H7.out.rd).mono ?_
    rintro e w8 ⟨rfl, hr8, hk8⟩
    have H8 := Lib.hid (H7.out.go hr8 hk8)
    have HV8 := Lib.hid (HV7.out.keepsD hk8 (fun q hq e => by have := HZ.out; omega))
    have HKS := Lib.hid (HKL.out _ HK7.out)
    clear hr8 hk8 H7 HV7 HK7
    have c3 := H8.out.rd.cells.2.2.2
    by_cases h41 : byteI s (skp s k') = 41
    · have HRC := Lib.hid ((if_pos h41).symm.trans HRI.out)
      clear HRI
      have HTA := Lib.hid (HTY.out _ n' HKS.out h41)
      have HI9 := Lib.hid (HIN.out _ h41)
      generalize skp s k' = j' at *
      clear h41
      go_wp2_with fail
      refine (HTA.out _ H8.out.rd).mono ?_
      rintro e w9 ⟨rfl, hr9, hk9⟩
      have H9 := Lib.hid (H8.out.go hr9 hk9)
      have HV9 := Lib.hid ((HV8.out.keepsD hk9 (fun q hq e => by have := HZ.out; omega)).weak (P' := fun q => w.heap.size < q) (fun q hq => by have := HZ.out; omega))
      clear hr9 hk9 H8 HV8 c3
      obtain ⟨x0, x1, x2, x3⟩ := H9.out.x.cells
      have r0 := H9.out.res.cells.1
      have r1 := H9.out.res.cells.2.1
      have r2 := H9.out.res.cells.2.2.1
      have r3 := H9.out.res.cells.2.2.2
      have rf0 := H9.out.res.fz 0
      have rf1 := H9.out.res.fz 1
      have rf2 := H9.out.res.fz 2
      have rf3 := H9.out.res.fz 3
      obtain ⟨q0, q1, q2, q3⟩ := (H9.out.res.set4 (.int .i64 k) (.bool t) (.slice a1 l1 e1) (.slice a2 l2 e2)).cells
      have hout := qp_ok H9.out HV9.out HI9.out HN7.out
      unfold set4 at q0 q1 q2 q3 hout
      go_wp2_with fail
      refine bodyPost_ret (v := .agg #[.int .i64 k, .bool t, .slice a1 l1 e1, .slice a2 l2 e2]) (by simp [results, Tryz.results82, go_sem, q0, q1, q2, q3]) rfl ?_
      rw [← HRC.out]
      exact hout
    · have HRC := Lib.hid ((if_neg h41).symm.trans HRI.out)
      clear HRI
      have HTA := Lib.hid (HTN.out _ n' HKS.out h41)
      have HM9 := Lib.hid (HMC.out (skp s k'))
      generalize skp s k' = j' at *
      clear h41
      go_wp2_with fail
      refine (HTA.out _ H8.out.rd).mono ?_
      rintro e w9 ⟨rfl, hr9, hk9⟩
      have H9 := Lib.hid (H8.out.go hr9 hk9)
      clear hr9 hk9 H8 HV8 c3
      obtain ⟨x0, x1, x2, x3⟩ := H9.out.x.cells
      have r0 := H9.out.res.cells.1
      have r1 := H9.out.res.cells.2.1
      have r2 := H9.out.res.cells.2.2.1
      have r3 := H9.out.res.cells.2.2.2
      have rf0 := H9.out.res.fz 0
      have rf1 := H9.out.res.fz 1
      have rf2 := H9.out.res.fz 2
      have rf3 := H9.out.res.fz 3
      obtain ⟨q0, q1, q2, q3⟩ := (H9.out.res.set4 (.int .i64 k) (.bool t) (.slice a1 l1 e1) (.slice a2 l2 e2)).cells
      have hout := qp_er (k := k) (t := t) (a1 := a1) (l1 := l1) (e1 := e1) (a2 := a2) (l2 := l2) (e2 := e2) H9.out HM9.out HKS.out
      unfold set4 at q0 q1 q2 q3 hout
      go_wp2_with fail
      refine bodyPost_ret (v := .agg #[.int .i64 k, .bool t, .slice a1 l1 e1, .slice a2 l2 e2]) (by simp [results, Tryz.results82, go_sem, q0, q1, q2, q3]) rfl ?_
      rw [← HRC.out]
      exact hout
end Go.Proofs.YtpccdhkghlbhkaaGreatDoor

namespace Go.Proofs.YtpccdhkghlbhkaaGreatDoor
open Go.RowKit Go.Extern.Stop Go.Stop Go.Extern

theorem qpart_any (s : ByteArray) (sub : Option (Nat → Nat → RO Rx)) (deep k n b : Nat) (hs : s.size ≤ 100000) (hk : k ≤ s.size) (hn : n ≤ 100) (hsub : QSub s sub deep) (w : World) (h : Qn w b s (skp s k) n 0) :
    Calls Tryz.prog 82 #[.pointer (some ⟨b, 0, none⟩), .int .i64 deep] w (QxOut w b s (bsR s sub k n)) := by
  have ha := (skp_le hk).2
  by_cases h40 : byteI s (skp s k) = 40
  · cases sub with
    | none =>
      have hd : deep = 64 := hsub
      subst hd
      have e : bsR s none k n = .er 8 (skp s k) := by unfold bsR; rw [if_pos h40]
      rw [e]
      exact qpart_deep s (skp s k) n b hs ha h40 w h
    | some f =>
      obtain ⟨hd, hf⟩ := (hsub : deep < 64 ∧ _)
      by_cases h41 : byteI s (skp s (skp s k + 1)) = 41
      · have e : bsR s (some f) k n = cnt (skp s (skp s k + 1) + 1) n (.mk 2 false [] []) (skp s k) := by unfold bsR; rw [if_pos h40]; exact if_pos h41
        rw [e]
        exact qpart_4041 s deep (skp s k) n b hs ha hn hd h40 h41 w h
      · refine qpart_40s s deep (skp s k) n b f hs ha hn hd hf h40 h41 _ ?_ w h
        unfold bsR
        rw [if_pos h40]
        exact (if_neg h41).symm
  · by_cases h46 : byteI s (skp s k) = 46
    · have e : bsR s sub k n = cnt (skp s k + 1) n (.mk 0 false [] []) (skp s k) := by unfold bsR; rw [if_neg h40, if_pos h46]
      rw [e]
      exact qpart_46 s deep (skp s k) n b hs ha hn h46 w h
    · by_cases h91 : byteI s (skp s k) = 91
      · have e : bsR s sub k n = (match chR s (s.size + 1) (notK s (skp s k + 1)) [] with | .er c a => .er c a | .ok k' _ ws => cnt k' n (.mk 1 (decide (byteI s (skp s (skp s k + 1)) = 94)) (srt ws) []) (skp s k)) := by unfold bsR; rw [if_neg h40, if_neg h46, if_pos h91]; generalize chR s (s.size + 1) (notK s (skp s k + 1)) [] = R; cases R <;> rfl
        rw [e]
        exact qpart_91 s deep (skp s k) n b hs ha hn h91 w h
      · have e : bsR s sub k n = (if wdC s (skp s k) ≠ 0 then .er (wdC s (skp s k)) (wdA s (skp s k)) else cnt (wdK s (skp s k)) n (.mk 1 false [s.extract (skp s k) (wdK s (skp s k))] []) (skp s k)) := by unfold bsR; rw [if_neg h40, if_neg h46, if_neg h91]
        rw [e]
        exact qpart_word s deep (skp s k) n b hs ha hn h40 h46 h91 w h

/-- Which of the three signs it is. -/
theorem sgnZ_cases (c : Int) : (sgn c = none ∧ sgnZ (fun d => decide ((0 : Int) = 0) && decide (c = d)) = -1) ∨ ∃ i : Nat, i ≤ 2 ∧ c ≠ 0 ∧ sgn c = some i ∧ sgnZ (fun d => decide ((0 : Int) = 0) && decide (c = d)) = i := by
  by_cases h1 : c = 42
  · subst h1; exact .inr ⟨0, by decide, by decide, rfl, rfl⟩
  · by_cases h2 : c = 43
    · subst h2; exact .inr ⟨1, by decide, by decide, rfl, rfl⟩
    · by_cases h3 : c = 63
      · subst h3; exact .inr ⟨2, by decide, by decide, rfl, rfl⟩
      · refine .inl ⟨by unfold sgn; rw [if_neg h1, if_neg h2, if_neg h3], ?_⟩
        unfold sgnZ
        simp [h1, h2, h3]
/-- Which of the three signs it is, as a number. -/
def sgW (c : Int) : Int := sgnZ (fun d => decide ((0 : Int) = 0) && decide (c = d))
theorem qsgn (s : ByteArray) (a n b : Nat) (ha : a ≤ s.size) (w : World) (h : Qn w b s a n 0) :
    Calls Tryz.prog 83 #[.pointer (some ⟨b, 0, none⟩)] w fun e w' => e = .returned (.int .i64 (sgW (byteI s a))) ∧ Below w.heap.size w w' := qsign_any s a n b 0 ha w h
theorem sgW_cases (c : Int) : (sgn c = none ∧ sgW c = -1) ∨ ∃ i : Nat, i ≤ 2 ∧ c ≠ 0 ∧ sgn c = some i ∧ sgW c = i := sgnZ_cases c

/-- An expression read so far, in the call's own cells. -/
structure QgSt (w0 : World) (b : Nat) (s : ByteArray) (k n xb : Nat) (x : Rx) (xk : Int) (xt : Bool) (xa1 : Option Addr) (xl1 xc1 : Nat) (xa2 : Option Addr) (xl2 xc2 : Nat) (w : World) : Prop where
  st : QpSt w0 b s k n 0 xb (.int .i64 xk) (.bool xt) (.slice xa1 xl1 xc1) (.slice xa2 xl2 xc2) w
  val : ExC (fun q => w0.heap.size < q ∧ q ≠ xb) w [.int .i64 xk, .bool xt, .slice xa1 xl1 xc1, .slice xa2 xl2 xc2] x
section
variable {w0 w w' : World} {b : Nat} {s : ByteArray} {k n xb k' n' : Nat} {c : Int} {x : Rx} {xk : Int} {xt : Bool} {xa1 : Option Addr} {xl1 xc1 : Nat} {xa2 : Option Addr} {xl2 xc2 : Nat}
theorem QgSt.go (h : QgSt w0 b s k n xb x xk xt xa1 xl1 xc1 xa2 xl2 xc2 w) (hr : Qn w' b s k' n' 0) (hk : Keeps (· = b) w w') : QgSt w0 b s k' n' xb x xk xt xa1 xl1 xc1 xa2 xl2 xc2 w' :=
  ⟨h.st.go hr hk, h.val.move hk.size (fun q hq hlt => ⟨hq, hk.block q hlt (by have := h.st.ord; omega)⟩)⟩
theorem QgSt.step (h : QgSt w0 b s k n xb x xk xt xa1 xl1 xc1 xa2 xl2 xc2 w) (hb : Below w.heap.size w w') : QgSt w0 b s k n xb x xk xt xa1 xl1 xc1 xa2 xl2 xc2 w' := h.go (h.st.rd.step hb) (.of_below hb)
theorem QpSt.wrap {c0 c1 c2 c3 : Value} (h : QpSt w0 b s k n c xb c0 c1 c2 c3 w) (kind : Int) :
    QpSt w0 b s k n c xb (.int .i64 kind) (.bool false) (.slice none 0 0) (.slice (some ⟨w.heap.size, 0, none⟩) 1 1) (set4 (w.alloc (.cells #[c0, c1, c2, c3] 33)) xb 0 (.int .i64 kind) (.bool false) (.slice none 0 0) (.slice (some ⟨w.heap.size, 0, none⟩) 1 1)) :=
  (h.step (sbelow_new w (.cells #[c0, c1, c2, c3] 33))).set _ _ _ _
/-- It is wrapped by a sign. -/
theorem QgSt.wrap (h : QgSt w0 b s k n xb x xk xt xa1 xl1 xc1 xa2 xl2 xc2 w) (kind : Int) :
    QgSt w0 b s k n xb (.mk kind false [] [x]) kind false none 0 0 (some ⟨w.heap.size, 0, none⟩) 1 1 (set4 (w.alloc (.cells #[.int .i64 xk, .bool xt, .slice xa1 xl1 xc1, .slice xa2 xl2 xc2] 33)) xb 0 (.int .i64 kind) (.bool false) (.slice none 0 0) (.slice (some ⟨w.heap.size, 0, none⟩) 1 1)) := by
  have bn := sbelow_new w (.cells #[.int .i64 xk, .bool xt, .slice xa1 xl1 xc1, .slice xa2 xl2 xc2] 33)
  have h1 := h.step bn
  have hq := quad_new w 33 (.int .i64 xk) (.bool xt) (.slice xa1 xl1 xc1) (.slice xa2 xl2 xc2)
  have hxl := h.st.x.lt
  have hrl := h.st.res.lt
  have hk4 := keeps_set4 (w.alloc (.cells #[.int .i64 xk, .bool xt, .slice xa1 xl1 xc1, .slice xa2 xl2 xc2] 33)) xb 0 (.int .i64 kind) (.bool false) (.slice none 0 0) (.slice (some ⟨w.heap.size, 0, none⟩) 1 1)
  have hq4 := hq.keeps hk4 (by omega)
  refine ⟨h.st.wrap kind, ?_⟩
  unfold ExC
  refine ⟨_, _, [.int .i64 xk, .bool xt, .slice xa1 xl1 xc1, .slice xa2 xl2 xc2], rfl, CapV.nil, RowX.nil _ _, .inr ⟨w.heap.size, 0, 1, rfl, ⟨by omega, by omega⟩, hq4.lt, fun j u hu => ?_⟩, ?_⟩
  · obtain ⟨e0, e1, e2, e3⟩ := hq4.cells
    match j, hu with
    | 0, hu => simp at hu; subst hu; exact e0
    | 1, hu => simp at hu; subst hu; exact e1
    | 2, hu => simp at hu; subst hu; exact e2
    | 3, hu => simp at hu; subst hu; exact e3
  · unfold ExsC
    exact ⟨_, [], by simp, h1.val.move hk4.size (fun q hq hlt => ⟨hq, hk4.block q hlt hq.2⟩), by unfold ExsC; rfl⟩
end
/-- What is told at the end of the way through the signs. -/
def QgRel (w : World) (b : Nat) (s : ByteArray) (xb : Nat) (tot : RO Rx) (g : Nat) (wr : World) : Prop :=
  (∃ (f k n : Nat) (x : Rx) (xk : Int) (xt : Bool) (xa1 : Option Addr) (xl1 xc1 : Nat) (xa2 : Option Addr) (xl2 xc2 : Nat), g = f + 1 ∧ 100 < n + f ∧ n ≤ 100 ∧ k ≤ s.size ∧ sgR s f k n x = tot ∧ QgSt w b s k n xb x xk xt xa1 xl1 xc1 xa2 xl2 xc2 wr) ∨
  (∃ (c : Int) (p n : Nat) (xk : Int) (xt : Bool) (xa1 : Option Addr) (xl1 xc1 : Nat) (xa2 : Option Addr) (xl2 xc2 : Nat), g = 0 ∧ tot = .er c p ∧ c ≠ 0 ∧ p ≤ s.size ∧ QpSt w b s p n c xb (.int .i64 xk) (.bool xt) (.slice xa1 xl1 xc1) (.slice xa2 xl2 xc2) wr)
end Go.Proofs.YtpccdhkghlbhkaaGreatDoor
