/-
  Chapter 11's law, fourth part: whether a topology is gone through; package topo's Check where nothing is wrong.
  Chapter 11's law, fifth part: Check of a topology that may be; the chapter's example.
  Chapter 11's law, sixth part: the chapter's example.
-/
import Derived.Test.YtlcpbfklnjlgnaaGreatDoorGp
import Derived.Test.YtlcpbfklnjlgnaaGreatDoorGb
import Derived.Test.YtlcpbfklnjlgnaaGreatDoorGd
import Derived.Test.YtlcpbfklnjlgnaaGreatDoorGo
import Derived.Test.YtlcpbfklnjlgnaaGreatDoorGj
namespace Go.Proofs.YtlcpbfklnjlgnaaGreatDoor
open Go.RowKit Go.Extern.Stop Go.Stop Go.Extern
/-! ### Where nothing is wrong -/
set_option maxHeartbeats 1000000 in
theorem nameFault_ok (s t : ByteArray) (hs : s.size ≤ maxLen) (hn : isNameB s = true) (hl : ltB t s = true) (w : World) :
    Calls Tryz.prog 140 #[.string s, .string t] w fun e w' => e = .returned (.int .i64 0) ∧ Below w.heap.size w w' := by
  have HN := Lib.hid (isName_any s hs w)
  rw [hn] at HN
  have hle : (Op.bytesLess s.toList t.toList || s.toList == t.toList) = false := by
    rw [Bool.or_eq_false_iff]
    refine ⟨ltB_asymm hl, ?_⟩
    rw [beq_eq_false_iff_ne]
    intro e
    rw [Go.ByteArray.toList_eq, Go.ByteArray.toList_eq] at e
    have : s = t := bytes_ext e
    subst this
    rw [ltB_irrefl] at hl
    cases hl
  clear hn hl hs
  go_enter Tryz.func140, Tryz.ntmps140
  go_wp2_with fail
  refine HN.out.mono ?_
  rintro e w2 ⟨rfl, b2⟩
  have HB := Lib.hid b2
  clear b2
  go_wp2_with fail
  go_ret
  exact ⟨rfl, HB.out⟩
set_option maxHeartbeats 1000000 in
theorem orE_zero (b : Nat) (w : World) (c0 : w.cell? ⟨b, 0, none⟩ = some (.int .i64 0)) (c1 : w.cell? ⟨b, 1, none⟩ = some (.int .i64 0)) :
    Calls Tryz.prog 139 #[.slice (some ⟨b, 0, none⟩) 2 2] w fun e w' => e = .returned (.int .i64 0) ∧ w' = w := by
  go_enter Tryz.func139, Tryz.ntmps139
  go_wp2_with fail
  go_loop [8] (fun u => ∃ k : Nat, k ≤ 2 ∧ u = .int .i64 k) (fun u => 2 - (intOf u).toNat)
  case atStart => exact ⟨0, by omega, rfl⟩
  case round =>
    obtain ⟨k, hk, rfl⟩ := hrel
    rcases k with _ | _ | _ | k
    · go_wp2_with fail
      go_round
      case rel => exact ⟨1, by omega, rfl⟩
      case measure => simp [intOf]
    · go_wp2_with fail
      go_round
      case rel => exact ⟨2, by omega, rfl⟩
      case measure => simp [intOf]
    · go_wp2_with fail
      go_ret
      exact ⟨rfl, rfl⟩
    · omega
set_option maxHeartbeats 400000 in
theorem check1_any (i : Int) (w : World) : Calls Tryz.prog 107 #[.int .i64 i] w fun e w' => e = .returned (.int .i64 0) ∧ Below w.heap.size w w' := by
  go_enter Tryz.func107, Tryz.ntmps107
  go_wp2
  go_ret
  exact ⟨rfl, Below.refl _ _⟩
set_option maxHeartbeats 1000000 in
theorem hasRouter_any (i : Int) (vr vl : Value) (rs : List ByteArray) (ls : List Lk) (w : World) (ht : TpAt w vr vl rs ls) (hi : InN rs.length i) :
    Calls Tryz.prog 141 #[.agg #[vr, vl], .int .i64 i] w fun e w' => e = .returned (.bool true) ∧ Below w.heap.size w w' := by
  have HT := Lib.hid (TB.start ht)
  obtain ⟨ra, rcap, rfl⟩ := ht.rs.form
  have k0 := HT.out.c0
  unfold InN at hi
  obtain ⟨h0, h1⟩ := hi
  clear ht
  go_enter Tryz.func141, Tryz.ntmps141
  go_wp2
  go_ret
  exact ⟨rfl, HT.out.below⟩
set_option maxRecDepth 100000 in
set_option maxHeartbeats 2000000 in
theorem linkFault_any (i : Nat) (vr vl : Value) (rs : List ByteArray) (ls : List Lk) (w : World) (ht : TpAt w vr vl rs ls) (hm : MayL rs.length ls) (hi : i < ls.length) :
    Calls Tryz.prog 110 #[.agg #[vr, vl], .int .i64 i] w fun e w' => e = .returned (.int .i64 0) ∧ Below w.heap.size w w' := by
  obtain ⟨l, hx⟩ : ∃ l, ls[i]? = some l := ⟨_, List.getElem?_eq_getElem hi⟩
  obtain ⟨hf, hto, _, hds⟩ := hm i l hx
  have hT := TB.start ht
  obtain ⟨la, lcap, rfl⟩ := ht.ls.form
  obtain ⟨b, off, rfl, c0, c1, c2, c3⟩ := hT.tp.ls.at hx (Below.refl _ _)
  have k0 := hT.c0
  have k1 := hT.c1
  have hbn := below_new (w.alloc (.cells #[vr, .slice (some ⟨b, off, none⟩) ls.length lcap] 25)) (.cells #[.string l.nm, .int .i64 l.fr, .int .i64 l.to, .int .u64 l.ds] 60)
  have hT2 := hT.step hbn
  have hB2 : LkB ((w.alloc (.cells #[vr, .slice (some ⟨b, off, none⟩) ls.length lcap] 25)).alloc (.cells #[.string l.nm, .int .i64 l.fr, .int .i64 l.to, .int .u64 l.ds] 60)) 60 (w.heap.size + 1) l := by
    have := heap_alloc_new (w.alloc (.cells #[vr, .slice (some ⟨b, off, none⟩) ls.length lcap] 25)) (.cells #[.string l.nm, .int .i64 l.fr, .int .i64 l.to, .int .u64 l.ds] 60)
    rwa [World.size_alloc] at this
  have m0 := hT2.c0
  have m1 := hT2.c1
  obtain ⟨x0, x1, x2, x3⟩ := hB2.cells
  have HT2 := Lib.hid hT2
  have HB2 := Lib.hid hB2
  have HF := Lib.hid (fun W h => hasRouter_any l.fr vr (.slice (some ⟨b, off, none⟩) ls.length lcap) rs ls W h hf)
  have HO := Lib.hid (fun W h => hasRouter_any l.to vr (.slice (some ⟨b, off, none⟩) ls.length lcap) rs ls W h hto)
  have hds' : ¬ (9223372036854775807 : Int) < l.ds := by unfold most at hds; omega
  clear ht hm hx hf hto hds hT hbn hT2 hB2
  go_enter Tryz.func110, Tryz.ntmps110
  go_wp2_with fail
  refine (HF.out _ HT2.out.tp).mono ?_
  rintro e w2 ⟨rfl, b2⟩
  have HT3 := Lib.hid (HT2.out.step b2)
  have HB3 := Lib.hid (HB2.out.step b2)
  clear c0 c1 c2 c3 k0 k1 m0 m1 x0 x1 x2 x3 b2 HF HT2 HB2
  have m0 := HT3.out.c0
  have m1 := HT3.out.c1
  obtain ⟨x0, x1, x2, x3⟩ := HB3.out.cells
  go_wp2_with fail
  refine (HO.out _ HT3.out.tp).mono ?_
  rintro e w3 ⟨rfl, b3⟩
  have HT4 := Lib.hid (HT3.out.step b3)
  have HB4 := Lib.hid (HB3.out.step b3)
  clear m0 m1 x0 x1 x2 x3 b3 HO HT3 HB3
  obtain ⟨x0, x1, x2, x3⟩ := HB4.out.cells
  go_wp2_with fail
  go_ret
  exact ⟨rfl, HT4.out.below⟩
/-- The name ahead of a place. -/
def aheadN (ns : List ByteArray) (i : Nat) : ByteArray := if i = 0 then ⟨#[]⟩ else (ns[i - 1]?).getD ⟨#[]⟩
structure NamesOk (ns : List ByteArray) : Prop where
  len : ns.length ≤ 64
  ok : ∀ (i : Nat) (s : ByteArray), ns[i]? = some s → s.size ≤ 60 ∧ isNameB s = true ∧ ltB (aheadN ns i) s = true
def CnR (w : World) (ns : List ByteArray) (g : Nat) (u a : Value) (wr : World) : Prop :=
  ∃ i : Nat, i ≤ ns.length ∧ g = ns.length - i ∧ u = .int .i64 i ∧ a = .string (aheadN ns i) ∧ Below w.heap.size w wr
set_option maxRecDepth 100000 in
set_option maxHeartbeats 4000000 in
theorem named_tpCheck1 (v : Value) (ns : List ByteArray) (w : World) (hv : StrsAt w v ns) (hok : NamesOk ns)
    (HF : ∀ (i : Nat) (W : World), i < ns.length → Below w.heap.size w W → Calls Tryz.prog 107 #[.int .i64 i] W fun e w' => e = .returned (.int .i64 0) ∧ Below W.heap.size W w') :
    Calls Tryz.prog 108 #[v, .func (.func 107) #[] #[]] w fun e w' => e = .returned .nilIface ∧ Below w.heap.size w w' := by
  obtain ⟨a, cap, rfl⟩ := hv.form
  have HV := Lib.hid hv
  have HH := Lib.hid HF
  have h64 : ¬ (64 : Int) < ns.length := by have := hok.len; omega
  have H0 : Hid (CnR w ns ns.length (.int .i64 0) (.string ⟨#[]⟩) w) := Lib.hid ⟨0, Nat.zero_le _, by omega, rfl, rfl, Below.refl _ _⟩
  clear hv HF
  go_enter Tryz.func108, Tryz.ntmps108
  go_wp2_with fail
  go_loopg [15, 5] ns.length (fun g u a wr => CnR w ns g u a wr)
  case atStart => exact H0.out
  case round =>
    obtain ⟨i, hi, hgi, rfl, rfl, hb⟩ := hrel
    by_cases hlt : i < ns.length
    · obtain ⟨s, hx⟩ : ∃ s, ns[i]? = some s := ⟨_, List.getElem?_eq_getElem hlt⟩
      obtain ⟨b, off, rfl, c0⟩ := HV.out.at hx hb
      obtain ⟨hs, hn, hl⟩ := hok.ok i s hx
      have HN := Lib.hid (nameFault_ok s (aheadN ns i) (by unfold maxLen; omega) hn hl wr)
      have HA : Hid (aheadN ns (i + 1) = s) := Lib.hid (by unfold aheadN; simp [hx])
      have HB := Lib.hid hb
      generalize aheadN ns i = t at *
      clear hs hn hl hx hb
      go_wp2_with fail
      refine HN.out.mono ?_
      rintro e w2 ⟨rfl, b2⟩
      have HB2 := Lib.hid (HB.out.trans (b2.mono HB.out.size))
      have HF2 := Lib.hid (HH.out i w2 hlt HB2.out)
      clear b2 HB HN
      go_wp2_with fail
      refine HF2.out.mono ?_
      rintro e w3 ⟨rfl, b3⟩
      have HB3 := Lib.hid (HB2.out.trans (b3.mono HB2.out.size))
      have hn3 := heap_alloc_new w3 (.cells #[.int .i64 0, .int .i64 0] 75)
      have HB4 := Lib.hid (HB3.out.trans ((below_new w3 (.cells #[.int .i64 0, .int .i64 0] 75)).mono HB3.out.size))
      have HO := Lib.hid (orE_zero w3.heap.size _ (by rw [Lib.cell_of_heap hn3]; rfl) (by rw [Lib.cell_of_heap hn3]; rfl))
      clear b3 HB2 HF2 hn3 c0
      go_wp2_with fail
      refine HO.out.mono ?_
      rintro e w4 ⟨rfl, rfl⟩
      have H3 : Hid (CnR w ns (ns.length - (i + 1)) (.int .i64 ((i : Int) + 1)) (.string s) (w3.alloc (.cells #[.int .i64 0, .int .i64 0] 75))) := Lib.hid ⟨i + 1, by omega, rfl, by go_num, by rw [HA.out], HB4.out⟩
      go_wp2_with fail
      go_roundg (ns.length - (i + 1))
      case measure => omega
      case rel => exact H3.out
    · obtain rfl : i = ns.length := by omega
      have HB := Lib.hid hb
      clear hb
      go_wp2_with fail
      go_ret
      exact ⟨rfl, HB.out⟩
set_option maxRecDepth 100000 in
set_option maxHeartbeats 4000000 in
theorem named_tpFault (cv v : Value) (ns : List ByteArray) (w : World) (hv : StrsAt w v ns) (hok : NamesOk ns)
    (HF : ∀ (i : Nat) (W : World), i < ns.length → Below w.heap.size w W → Calls Tryz.prog 110 #[cv, .int .i64 i] W fun e w' => e = .returned (.int .i64 0) ∧ Below W.heap.size W w') :
    Calls Tryz.prog 108 #[v, .func (.func 110) #[cv] #[]] w fun e w' => e = .returned .nilIface ∧ Below w.heap.size w w' := by
  obtain ⟨a, cap, rfl⟩ := hv.form
  have HV := Lib.hid hv
  have HH := Lib.hid HF
  have h64 : ¬ (64 : Int) < ns.length := by have := hok.len; omega
  have H0 : Hid (CnR w ns ns.length (.int .i64 0) (.string ⟨#[]⟩) w) := Lib.hid ⟨0, Nat.zero_le _, by omega, rfl, rfl, Below.refl _ _⟩
  clear hv HF
  go_enter Tryz.func108, Tryz.ntmps108
  go_wp2_with fail
  go_loopg [15, 5] ns.length (fun g u a wr => CnR w ns g u a wr)
  case atStart => exact H0.out
  case round =>
    obtain ⟨i, hi, hgi, rfl, rfl, hb⟩ := hrel
    by_cases hlt : i < ns.length
    · obtain ⟨s, hx⟩ : ∃ s, ns[i]? = some s := ⟨_, List.getElem?_eq_getElem hlt⟩
      obtain ⟨b, off, rfl, c0⟩ := HV.out.at hx hb
      obtain ⟨hs, hn, hl⟩ := hok.ok i s hx
      have HN := Lib.hid (nameFault_ok s (aheadN ns i) (by unfold maxLen; omega) hn hl wr)
      have HA : Hid (aheadN ns (i + 1) = s) := Lib.hid (by unfold aheadN; simp [hx])
      have HB := Lib.hid hb
      generalize aheadN ns i = t at *
      clear hs hn hl hx hb
      go_wp2_with fail
      refine HN.out.mono ?_
      rintro e w2 ⟨rfl, b2⟩
      have HB2 := Lib.hid (HB.out.trans (b2.mono HB.out.size))
      have HF2 := Lib.hid (HH.out i w2 hlt HB2.out)
      clear b2 HB HN
      go_wp2_with fail
      refine HF2.out.mono ?_
      rintro e w3 ⟨rfl, b3⟩
      have HB3 := Lib.hid (HB2.out.trans (b3.mono HB2.out.size))
      have hn3 := heap_alloc_new w3 (.cells #[.int .i64 0, .int .i64 0] 75)
      have HB4 := Lib.hid (HB3.out.trans ((below_new w3 (.cells #[.int .i64 0, .int .i64 0] 75)).mono HB3.out.size))
      have HO := Lib.hid (orE_zero w3.heap.size _ (by rw [Lib.cell_of_heap hn3]; rfl) (by rw [Lib.cell_of_heap hn3]; rfl))
      clear b3 HB2 HF2 hn3 c0
      go_wp2_with fail
      refine HO.out.mono ?_
      rintro e w4 ⟨rfl, rfl⟩
      have H3 : Hid (CnR w ns (ns.length - (i + 1)) (.int .i64 ((i : Int) + 1)) (.string s) (w3.alloc (.cells #[.int .i64 0, .int .i64 0] 75))) := Lib.hid ⟨i + 1, by omega, rfl, by go_num, by rw [HA.out], HB4.out⟩
      go_wp2_with fail
      go_roundg (ns.length - (i + 1))
      case measure => omega
      case rel => exact H3.out
    · obtain rfl : i = ns.length := by omega
      have HB := Lib.hid hb
      clear hb
      go_wp2_with fail
      go_ret
      exact ⟨rfl, HB.out⟩
end Go.Proofs.YtlcpbfklnjlgnaaGreatDoor

namespace Go.Proofs.YtlcpbfklnjlgnaaGreatDoor
open Go.RowKit Go.Extern.Stop Go.Stop Go.Extern

def LnR (w : World) (ns : List ByteArray) (g : Nat) (u n : Value) (wr : World) : Prop :=
  ∃ i : Nat, i ≤ ns.length ∧ g = ns.length - i ∧ u = .int .i64 i ∧ wr.ownsRow w.heap.size 9 1 n i (WordsOf (ns.take i)) ∧ Below w.heap.size w wr
set_option maxRecDepth 100000 in
set_option maxHeartbeats 4000000 in
theorem linkNames_any (vr vl : Value) (rs : List ByteArray) (ls : List Lk) (w : World) (ht : TpAt w vr vl rs ls) (hl : ls.length ≤ 1000) :
    Calls Tryz.prog 109 #[.agg #[vr, vl]] w fun e w' => ∃ u, e = .returned u ∧ StrsAt w' u (ls.map (·.nm)) ∧ Below w.heap.size w w' := by
  have HT := Lib.hid (TB.start ht)
  obtain ⟨la, lcap, rfl⟩ := ht.ls.form
  obtain ⟨i0, hi, hz0, hz1, hz2⟩ := info_parts infoStr
  have k1 := HT.out.c1
  have HLs : Hid ((ls.map (·.nm)).length = ls.length) := Lib.hid (by simp)
  have H0 : Hid (LnR w (ls.map (·.nm)) ls.length (.int .i64 0) (.slice none 0 0) (w.alloc (.cells #[vr, .slice la ls.length lcap] 25))) := Lib.hid ⟨0, Nat.zero_le _, by simp, rfl, World.ownsRow_nil _ _ _ _, HT.out.below⟩
  have HS := Lib.hid ht
  clear ht
  go_enter Tryz.func109, Tryz.ntmps109
  go_wp2_with fail
  go_loopg [9, 3] ls.length (fun g u n wr => LnR w (ls.map (·.nm)) g u n wr)
  case atStart => exact H0.out
  case round =>
    obtain ⟨i, hil, hgi, rfl, hown, hb⟩ := hrel
    rw [HLs.out] at hil hgi
    have HB := Lib.hid hb
    have HO := Lib.hid hown
    by_cases hlt : i < ls.length
    · obtain ⟨l, hx⟩ : ∃ l, ls[i]? = some l := ⟨_, List.getElem?_eq_getElem hlt⟩
      obtain ⟨b, off, rfl, c0, c1, c2, c3⟩ := HS.out.ls.at hx hb
      have HE : Hid (WordsOf ((ls.map (·.nm)).take (i + 1)) = WordsOf ((ls.map (·.nm)).take i) ++ [.string l.nm]) := Lib.hid (by
        rw [List.take_add_one, List.getElem?_map, hx]
        simp [WordsOf])
      have hsz := hb.size
      have HO2 : Hid (((wr.alloc (.cells #[.string l.nm, .int .i64 l.fr, .int .i64 l.to, .int .u64 l.ds] 60)).alloc (.cells #[.string l.nm] 9)).ownsRow w.heap.size 9 1 u3 i (WordsOf ((ls.map (·.nm)).take i))) := Lib.hid ((hown.alloc _).alloc _)
      have HB2 : Hid (Below w.heap.size w ((wr.alloc (.cells #[.string l.nm, .int .i64 l.fr, .int .i64 l.to, .int .u64 l.ds] 60)).alloc (.cells #[.string l.nm] 9))) := Lib.hid ((hb.alloc hb.size _).alloc (by simp; omega) _)
      have HN : Hid (((wr.alloc (.cells #[.string l.nm, .int .i64 l.fr, .int .i64 l.to, .int .u64 l.ds] 60)).alloc (.cells #[.string l.nm] 9)).heap[wr.heap.size + 1]? = some (.cells #[.string l.nm] 9 (0, 0))) := Lib.hid (by
        have := heap_alloc_new (wr.alloc (.cells #[.string l.nm, .int .i64 l.fr, .int .i64 l.to, .int .u64 l.ds] 60)) (.cells #[.string l.nm] 9)
        rwa [World.size_alloc] at this)
      clear hx hb hown HB HO k1
      go_wp2_with (at_builtin; refine wpList_append_own _ rfl _ _ 22 rfl w.heap.size 9 i0 (.string ByteArray.empty) 1 16 Tryz.underlying22 hi hz0 hz1 hz2 rfl (by decide) _ _ _ rfl HO2.out ⟨wr.heap.size + 1, 0, none⟩ 1 1 [.string l.nm] rfl rfl ?_ (fun u hu => by simp at hu; subst hu; rfl) ?_ ?_ ?_ ?_)
      · unfold maxLen; omega
      · omega
      · (try simp only [World.size_alloc]); omega
      intro v4 w4 hown4 hgrow4 _
      have hB4 : Below w.heap.size w w4 := HB2.out.grown hgrow4 (by simp; omega) (fun k' e => (HO2.out.lt k' e).1)
      rw [← HE.out] at hown4
      have HN4 : Hid (LnR w (ls.map (·.nm)) (ls.length - (i + 1)) (.int .i64 ((i : Int) + 1)) v4 w4) := Lib.hid ⟨i + 1, by rw [HLs.out]; omega, by rw [HLs.out], by go_num, hown4, hB4⟩
      clear hown4 hgrow4 hB4 HO2 HB2 HN
      go_wp2_with fail
      go_roundg (ls.length - (i + 1))
      case measure => omega
      case rel => exact HN4.out
    · obtain rfl : i = ls.length := by omega
      have HF : Hid (StrsAt wr u3 (ls.map (·.nm))) := Lib.hid (by
        have h := HO.out
        rw [show (ls.map (·.nm)).take ls.length = ls.map (·.nm) from by rw [← HLs.out, List.take_length]] at h
        exact strs_own (by rw [HLs.out]; exact h))
      clear hb hown k1
      go_wp2_with fail
      go_ret
      exact ⟨_, rfl, HF.out, HB.out⟩

set_option maxRecDepth 100000 in
set_option maxHeartbeats 4000000 in
theorem tpCheck_ok (vr vl : Value) (rs : List ByteArray) (ls : List Lk) (w : World) (ht : TpAt w vr vl rs ls) (hg : GoodT rs ls) (hr : NamesOk rs) (hl : NamesOk (ls.map (·.nm))) :
    Calls Tryz.prog 66 #[.agg #[vr, vl]] w fun e w' => e = .returned .nilIface ∧ Below w.heap.size w w' := by
  have HT := Lib.hid (TB.start ht)
  have HLn : (ls.map (·.nm)).length = ls.length := by simp
  have k0 := HT.out.c0
  have k1 := HT.out.c1
  have H1 := Lib.hid (named_tpCheck1 vr rs _ HT.out.tp.rs hr (fun i W _ _ => check1_any i W))
  have H2 := Lib.hid (fun W h => linkNames_any vr vl rs ls W h (by have := hg.nl; omega))
  have H3 := Lib.hid (fun v W (hv : StrsAt W v (ls.map (·.nm))) (h : TpAt W vr vl rs ls) => named_tpFault (.agg #[vr, vl]) v (ls.map (·.nm)) W hv hl (fun i W' hi hb => linkFault_any i vr vl rs ls W' (h.step hb) hg.may (by rw [HLn] at hi; exact hi)))
  clear ht hg hr hl HLn
  go_enter Tryz.func66, Tryz.ntmps66
  go_wp2_with fail
  refine H1.out.mono ?_
  rintro e w2 ⟨rfl, b2⟩
  have hI := HT.out.step b2
  clear b2 H1 k0 k1 HT
  go_wp2_with fail
  replace hI := hI.step (Below.refl _ _).drew
  have k0 := hI.c0
  have k1 := hI.c1
  go_region_held3 (fun w' => w'.cell? ⟨w.heap.size, 0, none⟩ = some vr ∧ w'.cell? ⟨w.heap.size, 1, none⟩ = some vl)
    (first | exact ⟨k0, k1⟩ | exact ⟨hI.c0, hI.c1⟩ | go_keep)
    (first
    | (go_at_call 109; refine (H2.out _ hI.tp).mono ?_; rintro e w3 ⟨u, rfl, hu, b3⟩; replace hI := hI.step b3)
    | (go_at_call 108; refine (H3.out _ _ hu hI.tp).mono ?_; rintro e w4 ⟨rfl, b4⟩; replace hI := hI.step b4)
    | (go_at_call 27; refine (in_nil _ _).mono ?_; rintro e w5 ⟨rfl, rfl⟩))
  all_goals
    go_wp2_with fail
    go_ret
    exact ⟨rfl, hI.below⟩
end Go.Proofs.YtlcpbfklnjlgnaaGreatDoor

namespace Go.Proofs.YtlcpbfklnjlgnaaGreatDoor
open Go.RowKit Go.Extern.Stop Go.Stop Go.Extern

def exR : List ByteArray := [⟨#[97]⟩, ⟨#[98]⟩]
def exL : List Lk := [⟨⟨#[108, 48]⟩, 0, 1, 3⟩, ⟨⟨#[108, 49]⟩, 0, 1, 5⟩]
theorem ex_name (s : ByteArray) (h : s = ⟨#[97]⟩ ∨ s = ⟨#[98]⟩ ∨ s = ⟨#[108, 48]⟩ ∨ s = ⟨#[108, 49]⟩) : isNameB s = true := by
  have h1 : ∀ c : UInt8, c = 97 ∨ c = 98 → runTo isIn ⟨#[c]⟩ 0 = 1 := by
    rintro c (rfl | rfl) <;> rw [runTo_go (by decide) (by decide), runTo_end (by decide)]
  have h2 : ∀ c : UInt8, c = 48 ∨ c = 49 → runTo isIn ⟨#[108, c]⟩ 0 = 2 := by
    rintro c (rfl | rfl) <;> rw [runTo_go (by decide) (by decide), runTo_go (by decide) (by decide), runTo_end (by decide)]
  rcases h with rfl | rfl | rfl | rfl
  · have := h1 97 (.inl rfl); unfold isNameB isNameR nameC nameK; rw [this]; decide
  · have := h1 98 (.inr rfl); unfold isNameB isNameR nameC nameK; rw [this]; decide
  · have := h2 48 (.inl rfl); unfold isNameB isNameR nameC nameK; rw [this]; decide
  · have := h2 49 (.inr rfl); unfold isNameB isNameR nameC nameK; rw [this]; decide
theorem lt_of (a b : ByteArray) (h : Op.bytesLess a.data.toList b.data.toList = true) : ltB a b = true := by
  unfold ltB
  rw [Go.ByteArray.toList_eq, Go.ByteArray.toList_eq]
  exact h
theorem exR_ok : NamesOk exR := by
  refine ⟨by decide, fun i s h => ?_⟩
  match i, h with
  | 0, h => obtain rfl : (⟨#[97]⟩ : ByteArray) = s := by simpa [exR] using h
            exact ⟨by decide, ex_name _ (.inl rfl), lt_of _ _ (by decide)⟩
  | 1, h => obtain rfl : (⟨#[98]⟩ : ByteArray) = s := by simpa [exR] using h
            exact ⟨by decide, ex_name _ (.inr (.inl rfl)), lt_of _ _ (by decide)⟩
  | i + 2, h => simp [exR] at h
theorem exL_ok : NamesOk (exL.map (·.nm)) := by
  refine ⟨by decide, fun i s h => ?_⟩
  match i, h with
  | 0, h => obtain rfl : (⟨#[108, 48]⟩ : ByteArray) = s := by simpa [exL] using h
            exact ⟨by decide, ex_name _ (.inr (.inr (.inl rfl))), lt_of _ _ (by decide)⟩
  | 1, h => obtain rfl : (⟨#[108, 49]⟩ : ByteArray) = s := by simpa [exL] using h
            exact ⟨by decide, ex_name _ (.inr (.inr (.inr rfl))), lt_of _ _ (by decide)⟩
  | i + 2, h => simp [exL] at h
theorem ex_may : MayL 2 exL := by
  intro i l h
  match i, h with
  | 0, h => obtain rfl := Option.some.inj (show some _ = some l from h); decide
  | 1, h => obtain rfl := Option.some.inj (show some _ = some l from h); decide
  | i + 2, h => simp [exL] at h
theorem ex_good : GoodT exR exL := by
  refine ⟨by decide, by decide, ex_may, fun i s t h h' => ?_, fun i l m h h' => ?_⟩
  · match i, h, h' with
    | 0, h, h' =>
      obtain rfl : (⟨#[97]⟩ : ByteArray) = s := by simpa [exR] using h
      obtain rfl : (⟨#[98]⟩ : ByteArray) = t := by simpa [exR] using h'
      exact lt_of _ _ (by decide)
    | i + 1, h, h' => simp [exR] at h'
  · match i, h, h' with
    | 0, h, h' =>
      obtain rfl := Option.some.inj (show some _ = some l from h)
      obtain rfl := Option.some.inj (show some _ = some m from h')
      exact lt_of _ _ (by decide)
    | i + 1, h, h' => simp [exL] at h'
/-- Where l0 failed: 5. -/
theorem ex_told {d : Int} {o : Bool} (h : Told exL 2 (hasB (ofS [0]).1 (ofS [0]).2) 0 1 d o) : d = 5 ∧ o = true := by
  have h1 : Told exL 2 (hasB (ofS [0]).1 (ofS [0]).2) 0 1 5 true := by
    refine .inl ⟨rfl, ?_, fun d' hw => ?_⟩
    · have := Way.go (ls := exL) (n := 2) (F := hasB (ofS [0]).1 (ofS [0]).2) (a := 0) (.nil (by decide)) (i := 1) (l := ⟨⟨#[108, 49]⟩, 0, 1, 5⟩) rfl (by decide) rfl
      exact this
    · generalize hv : (1 : Int) = v at hw
      cases hw with
      | nil _ => omega
      | @go u d i l hw hi hF hfr =>
        match i, hi with
        | 0, hi => exact absurd hF (by decide)
        | 1, hi =>
          obtain rfl := Option.some.inj (show some _ = some l from hi)
          have hb := hw.bd ex_may
          have := addI_ge 5 d hb.2.1
          rw [addI_comm] at this
          exact this
        | i + 2, hi => simp [exL] at hi
  exact ⟨(h.one h1).1, (h.one h1).2⟩
theorem Awake8_any (w : World) : Calls Tryz.prog 65 #[] w fun e w' => e = .returned (.bool true) ∧ Below w.heap.size w w' := by
  have HA := Lib.hid (awake8_any w)
  go_enter Tryz.func65, Tryz.ntmps65
  go_wp2_with fail
  refine HA.out.mono ?_
  rintro e w' ⟨rfl, hb⟩
  go_wp2_with fail
  go_ret
  exact ⟨rfl, hb⟩
/-- On the way through the example. -/
structure AwS (w0 : World) (B : Nat) (vr vl : Value) (rs : List ByteArray) (ls : List Lk) (W : World) : Prop where
  tb : TB w0 B vr vl rs ls W
  han : Handle W
  tab : TabB W
theorem AwS.step {w0 : World} {B : Nat} {vr vl : Value} {rs : List ByteArray} {ls : List Lk} {W W' : World} (h : AwS w0 B vr vl rs ls W) (hb : Below W.heap.size W W') : AwS w0 B vr vl rs ls W' :=
  ⟨h.tb.step hb, h.han.below hb, h.tab.below h.tab.lt hb⟩
theorem ex_start (w : World) (hg : Handle w) (ht : TabB w) : AwS w (w.heap.size + 1 + 1) (.slice (some ⟨w.heap.size, 0, none⟩) 2 2) (.slice (some ⟨w.heap.size + 1, 0, none⟩) 2 2) exR exL
    (((w.alloc (.cells #[.string ⟨#[97]⟩, .string ⟨#[98]⟩] 9)).alloc (.cells #[.string ⟨#[108, 48]⟩, .int .i64 0, .int .i64 1, .int .u64 3, .string ⟨#[108, 49]⟩, .int .i64 0, .int .i64 1, .int .u64 5] 60)).alloc (.cells #[.slice (some ⟨w.heap.size, 0, none⟩) 2 2, .slice (some ⟨w.heap.size + 1, 0, none⟩) 2 2] 25)) := by
  have e1 : (w.alloc (.cells #[.string ⟨#[97]⟩, .string ⟨#[98]⟩] 9)).heap.size = w.heap.size + 1 := World.size_alloc _ _
  have e2 : ((w.alloc (.cells #[.string ⟨#[97]⟩, .string ⟨#[98]⟩] 9)).alloc (.cells #[.string ⟨#[108, 48]⟩, .int .i64 0, .int .i64 1, .int .u64 3, .string ⟨#[108, 49]⟩, .int .i64 0, .int .i64 1, .int .u64 5] 60)).heap.size = w.heap.size + 1 + 1 := by rw [World.size_alloc, e1]
  have hb1 := below_new w (.cells #[.string ⟨#[97]⟩, .string ⟨#[98]⟩] 9)
  have hb2 := below_new (w.alloc (.cells #[.string ⟨#[97]⟩, .string ⟨#[98]⟩] 9)) (.cells #[.string ⟨#[108, 48]⟩, .int .i64 0, .int .i64 1, .int .u64 3, .string ⟨#[108, 49]⟩, .int .i64 0, .int .i64 1, .int .u64 5] 60)
  have hB2 := hb1.trans (hb2.mono hb1.size)
  have hn1 := heap_alloc_new w (.cells #[.string ⟨#[97]⟩, .string ⟨#[98]⟩] 9)
  have hn2 := heap_alloc_new (w.alloc (.cells #[.string ⟨#[97]⟩, .string ⟨#[98]⟩] 9)) (.cells #[.string ⟨#[108, 48]⟩, .int .i64 0, .int .i64 1, .int .u64 3, .string ⟨#[108, 49]⟩, .int .i64 0, .int .i64 1, .int .u64 5] 60)
  rw [e1] at hn2
  have hr : StrsAt (w.alloc (.cells #[.string ⟨#[97]⟩, .string ⟨#[98]⟩] 9)) (.slice (some ⟨w.heap.size, 0, none⟩) 2 2) exR := by
    refine .inr ⟨w.heap.size, 0, 2, rfl, by simp, fun i hi => ?_⟩
    have h2 : exR.length = 2 := rfl
    rw [Lib.cell_of_heap hn1]
    obtain rfl | rfl : i = 0 ∨ i = 1 := by omega
    · rfl
    · rfl
  have hl : LksAt ((w.alloc (.cells #[.string ⟨#[97]⟩, .string ⟨#[98]⟩] 9)).alloc (.cells #[.string ⟨#[108, 48]⟩, .int .i64 0, .int .i64 1, .int .u64 3, .string ⟨#[108, 49]⟩, .int .i64 0, .int .i64 1, .int .u64 5] 60)) (.slice (some ⟨w.heap.size + 1, 0, none⟩) 2 2) exL := by
    refine .inr ⟨w.heap.size + 1, 0, 2, rfl, by rw [e2]; omega, fun i l hi => ?_⟩
    rw [Lib.cell_of_heap hn2, Lib.cell_of_heap hn2, Lib.cell_of_heap hn2, Lib.cell_of_heap hn2]
    match i, hi with
    | 0, hi => obtain rfl := Option.some.inj (show some _ = some l from hi); exact ⟨rfl, rfl, rfl, rfl⟩
    | 1, hi => obtain rfl := Option.some.inj (show some _ = some l from hi); exact ⟨rfl, rfl, rfl, rfl⟩
    | i + 2, hi => simp [exL] at hi
  have hT : TpAt _ _ _ exR exL := ⟨hr.keep hb2, hl⟩
  have hB := TB.start hT
  rw [e2] at hB
  have hb3 := below_new ((w.alloc (.cells #[.string ⟨#[97]⟩, .string ⟨#[98]⟩] 9)).alloc (.cells #[.string ⟨#[108, 48]⟩, .int .i64 0, .int .i64 1, .int .u64 3, .string ⟨#[108, 49]⟩, .int .i64 0, .int .i64 1, .int .u64 5] 60)) (.cells #[.slice (some ⟨w.heap.size, 0, none⟩) 2 2, .slice (some ⟨w.heap.size + 1, 0, none⟩) 2 2] 25)
  have hB3 := hB2.trans (hb3.mono hB2.size)
  exact ⟨⟨hB.lt, hB.c0, hB.c1, hB.tp, hB3⟩, hg.below hB3, ht.below ht.lt hB3⟩
set_option maxRecDepth 100000 in
set_option maxHeartbeats 8000000 in
theorem awake11_any (w : World) (hg : Handle w) (ht : TabB w) : Calls Tryz.prog 36 #[] w fun e w' => e = .returned (.bool true) ∧ Below w.heap.size w w' := by
  have HS := Lib.hid (ex_start w hg ht)
  have HO := Lib.hid (fun (W : World) (v : Value) (h : IntsAt W v [0]) => of_any [0] v W h (by decide))
  have HLe := Lib.hid (fun W (h : TpAt W (.slice (some ⟨w.heap.size, 0, none⟩) 2 2) (.slice (some ⟨w.heap.size + 1, 0, none⟩) 2 2) exR exL) (h2 : TabB W) => least_any 0 1 _ _ (ofS_u64 [0]).1 (ofS_u64 [0]).2 _ _ exR exL W h ex_may (by decide) (by decide) h2)
  have HCk := Lib.hid (fun W (h : TpAt W (.slice (some ⟨w.heap.size, 0, none⟩) 2 2) (.slice (some ⟨w.heap.size + 1, 0, none⟩) 2 2) exR exL) => tpCheck_ok _ _ exR exL W h ex_good exR_ok exL_ok)
  have HTo := Lib.hid (fun d o (h : Told exL 2 (hasB (ofS [0]).1 (ofS [0]).2) 0 1 d o) => ex_told h)
  clear hg ht
  obtain ⟨f1, hf1⟩ : ∃ f, (ofS [0]).1 = f := ⟨_, rfl⟩
  obtain ⟨f2, hf2⟩ : ∃ f, (ofS [0]).2 = f := ⟨_, rfl⟩
  rw [hf1, hf2] at HO HLe HTo
  clear hf1 hf2
  go_enter Tryz.func36, Tryz.ntmps36
  go_wp2_with fail
  have hI := HS.out.step (Below.refl _ _).drew
  clear HS
  generalize (((w.alloc (.cells #[.string ⟨#[97]⟩, .string ⟨#[98]⟩] 9)).alloc (.cells #[.string ⟨#[108, 48]⟩, .int .i64 0, .int .i64 1, .int .u64 3, .string ⟨#[108, 49]⟩, .int .i64 0, .int .i64 1, .int .u64 5] 60)).alloc (.cells #[.slice (some ⟨w.heap.size, 0, none⟩) 2 2, .slice (some ⟨w.heap.size + 1, 0, none⟩) 2 2] 25)) = w1 at *
  have k0 := hI.tb.c0
  have k1 := hI.tb.c1
  go_region_held3 (fun w' => w'.cell? ⟨w.heap.size + 1 + 1, 0, none⟩ = some (.slice (some ⟨w.heap.size, 0, none⟩) 2 2) ∧ w'.cell? ⟨w.heap.size + 1 + 1, 1, none⟩ = some (.slice (some ⟨w.heap.size + 1, 0, none⟩) 2 2))
    (first | exact ⟨k0, k1⟩ | exact ⟨hI.tb.c0, hI.tb.c1⟩ | exact ⟨(hI.step (below_new _ _)).tb.c0, (hI.step (below_new _ _)).tb.c1⟩ | go_keep)
    (first
    | (go_at_call 17; refine (HO.out _ _ ((ints_new _ 0).step (Below.refl _ _).drew)).mono ?_; rintro e w2 ⟨rfl, b2⟩; replace hI := (hI.step (below_new _ (.cells #[.int .i64 0] 3))).step b2)
    | (go_at_call 61; refine (HLe.out _ hI.tb.tp hI.tab).mono ?_; rintro e w3 ⟨d, o, rfl, htold, b3⟩; replace hI := hI.step b3))
  obtain ⟨rfl, rfl⟩ := HTo.out d o htold
  have HI := Lib.hid hI
  clear hI htold HTo HLe HO k0 k1
  go_wp2_with fail
  refine (Awake1_any _ HI.out.han).mono ?_
  rintro e w4 ⟨rfl, b4⟩
  have HI0 := Lib.hid (HI.out.step b4)
  clear b4 HI
  go_wp2_with fail
  refine (Awake2_any _ HI0.out.han).mono ?_
  rintro e w4 ⟨rfl, b4⟩
  have HI1 := Lib.hid (HI0.out.step b4)
  clear b4 HI0
  go_wp2_with fail
  refine (Awake3_any _ HI1.out.han).mono ?_
  rintro e w4 ⟨rfl, b4⟩
  have HI2 := Lib.hid (HI1.out.step b4)
  clear b4 HI1
  go_wp2_with fail
  refine (Awake7_any _ HI2.out.tab).mono ?_
  rintro e w4 ⟨rfl, b4⟩
  have HI3 := Lib.hid (HI2.out.step b4)
  clear b4 HI2
  go_wp2_with fail
  refine (Awake8_any _).mono ?_
  rintro e w4 ⟨rfl, b4⟩
  have HI4 := Lib.hid (HI3.out.step b4)
  clear b4 HI3
  have k0 := HI4.out.tb.c0
  have k1 := HI4.out.tb.c1
  go_wp2_with fail
  refine (HCk.out _ HI4.out.tb.tp).mono ?_
  rintro e w5 ⟨rfl, b5⟩
  have HI9 := Lib.hid (HI4.out.step b5)
  clear b5 k0 k1
  go_wp2_with fail
  go_ret
  exact ⟨rfl, HI9.out.tb.below⟩
theorem Awake11_any (w : World) (hg : Handle w) (ht : TabB w) : Calls Tryz.prog 15 #[] w fun e w' => e = .returned (.bool true) ∧ Below w.heap.size w w' := by
  have HA := Lib.hid (awake11_any w hg ht)
  clear hg ht
  go_enter Tryz.func15, Tryz.ntmps15
  go_wp2_with fail
  refine HA.out.mono ?_
  rintro e w' ⟨rfl, hb⟩
  go_wp2_with fail
  go_ret
  exact ⟨rfl, hb⟩
end Go.Proofs.YtlcpbfklnjlgnaaGreatDoor
