/-
  The law's copy of any value, by contract.
  The document's text of a value that may be written, by contract.
  The document's check of any value, by contract.
  fairleadlaw01.Within, by contract.
  InkWrites' body: any value as text, or why it may not be, and where in it.
  A value among a law's arguments.
  The statement InkWrites, proved: for every value, and in whatever memory, the law answers true and each argument reads afterwards as it did; what it lists of package-level variables is tied to the program's text.
-/
import Derived.Test.YtajmlkephefapaaGreatDoorGts
import Derived.Test.YtajmlkephefapaaGreatDoorGi2
import Derived.Deep.AppendLies
import Derived.Test.YtajmlkephefapaaGreatDoorInkQ
import Derived.Test.YtajmlkephefapaaGreatDoorGi6
import Derived.Test.YtajmlkephefapaaGreatDoorGtq
import Derived.Test.YtajmlkephefapaaGreatDoorAwake
import Derived.Test.YtajmlkephefapaaGreatDoorGi4
import Derived.Test.YtajmlkephefapaaGreatDoorLift4
import Derived.Deep.Slices
import Derived.Deep.Strs
import Derived.SliceStrings
namespace Go.Proofs.YtajmlkephefapaaGreatDoor
open Go.RowKit Go.Extern.Stop Go.Stop Go.Extern Go.WideMaps

set_option maxRecDepth 100000 in
set_option maxHeartbeats 8000000 in
theorem to5_go (P : Nat → Prop) : ∀ (m : Nat) (x : Val), SizeOf.sizeOf x < m → okI x → ∀ (w : World) (k : Int) (t : ByteArray) (u : Int) (a : Option Addr) (l c : Nat) (a' : Option Addr) (l' c' : Nat) (z : Int),
    ValC P w [.int .i64 k, .string t, .int .u64 u, .slice a l c, .slice a' l' c', .int .i64 z] x →
    Calls Tryz.prog 11 #[.agg #[.int .i64 k, .string t, .int .u64 u, .slice a l c, .slice a' l' c', .int .i64 z]] w (ToOut w k t u z x) := by
  intro m
  induction m with
  | zero => intro x hx; exact absurd hx (Nat.not_lt_zero _)
  | succ m ih =>
    intro x hx hko w k t u a l c a' l' c' z hv
    have IH := Lib.hid ih
    clear ih
    obtain ⟨i0, hi, hz0, hz1, hz2⟩ := info_parts infoRVal
    cases x with
    | mk k1 t1 n1 list keys z1 =>
      rw [okI] at hko
      unfold ValC at hv
      obtain ⟨sl, sk', xs, e, hk, hl, hvs⟩ := hv
      simp only [List.cons.injEq, Value.int.injEq, Value.string.injEq, true_and, and_true] at e
      obtain ⟨rfl, rfl, rfl, rfl, rfl, rfl⟩ := e
      have HROW := Lib.hid hl
      have HVS := Lib.hid hvs
      have HK := Lib.hid hk
      obtain ⟨_, _, es⟩ := hl.form
      simp only [Value.slice.injEq] at es
      obtain ⟨-, el, -⟩ := es
      subst el
      obtain ⟨_, _, es⟩ := hk.form
      simp only [Value.slice.injEq] at es
      obtain ⟨-, el, -⟩ := es
      subst el
      have hll : list.length ≤ 100000 := hko.1
      have HLL := Lib.hid hll
      have HKL := Lib.hid hko
      simp only [Val.mk.sizeOf_spec] at hx
      have HX := Lib.hid hx
      clear hk hl hvs hx hko hll
      have h1 := heap_alloc_new w (.cells #[.int .i64 k, .string t, .int .u64 u, .slice a list.length c, .slice a' keys.length c', .int .i64 z] 27)
      have hS1 : SixAt (w.alloc (.cells #[.int .i64 k, .string t, .int .u64 u, .slice a list.length c, .slice a' keys.length c', .int .i64 z] 27)) w.heap.size (.int .i64 k) (.string t) (.int .u64 u) (.slice a list.length c) (.slice a' keys.length c') (.int .i64 z) := h1
      have hb1 := sbelow_new w (.cells #[.int .i64 k, .string t, .int .u64 u, .slice a list.length c, .slice a' keys.length c', .int .i64 z] 27)
      generalize hw1 : w.alloc (.cells #[.int .i64 k, .string t, .int .u64 u, .slice a list.length c, .slice a' keys.length c', .int .i64 z] 27) = w1 at *
      have hz1' : w1.heap.size = w.heap.size + 1 := by rw [← hw1, World.size_alloc]
      have hR1 : SixR (w1.alloc (.cells #[.int .i64 0, .string ⟨#[]⟩, .int .u64 0, .slice none 0 0, .slice none 0 0, .int .i64 0] 34)) (w.heap.size + 1) (.int .i64 0) (.string ⟨#[]⟩) (.int .u64 0) (.slice none 0 0) (.slice none 0 0) (.int .i64 0) := by
        have := heap_alloc_new w1 (.cells #[.int .i64 0, .string ⟨#[]⟩, .int .u64 0, .slice none 0 0, .slice none 0 0, .int .i64 0] 34)
        rwa [hz1'] at this
      have hb2 := sbelow_new w1 (.cells #[.int .i64 0, .string ⟨#[]⟩, .int .u64 0, .slice none 0 0, .slice none 0 0, .int .i64 0] 34)
      have hS2 := hS1.step hb2
      have hz2' : (w1.alloc (.cells #[.int .i64 0, .string ⟨#[]⟩, .int .u64 0, .slice none 0 0, .slice none 0 0, .int .i64 0] 34)).heap.size = w.heap.size + 2 := by rw [World.size_alloc, hz1']
      have hB2 := hb1.trans (hb2.mono hb1.size)
      generalize hw2 : w1.alloc (.cells #[.int .i64 0, .string ⟨#[]⟩, .int .u64 0, .slice none 0 0, .slice none 0 0, .int .i64 0] 34) = w2 at *
      have hO3 : SixR (w2.alloc (.cells #[.int .i64 k, .string t, .int .u64 u, .slice none 0 0, .slice none 0 0, .int .i64 z] 34)) (w.heap.size + 2) (.int .i64 k) (.string t) (.int .u64 u) (.slice none 0 0) (.slice none 0 0) (.int .i64 z) := by
        have := heap_alloc_new w2 (.cells #[.int .i64 k, .string t, .int .u64 u, .slice none 0 0, .slice none 0 0, .int .i64 z] 34)
        rwa [hz2'] at this
      have hb3 := sbelow_new w2 (.cells #[.int .i64 k, .string t, .int .u64 u, .slice none 0 0, .slice none 0 0, .int .i64 z] 34)
      have hS3 := hS2.step hb3
      have hR3 := hR1.step hb3
      have hz3' : (w2.alloc (.cells #[.int .i64 k, .string t, .int .u64 u, .slice none 0 0, .slice none 0 0, .int .i64 z] 34)).heap.size = w.heap.size + 3 := by rw [World.size_alloc, hz2']
      have hB3 := hB2.trans (hb3.mono hB2.size)
      generalize hw3 : w2.alloc (.cells #[.int .i64 k, .string t, .int .u64 u, .slice none 0 0, .slice none 0 0, .int .i64 z] 34) = w3 at *
      obtain ⟨p0, p1, p2, p3, p4, p5⟩ := hS2.cells
      obtain ⟨-, -, -, -, q4, -⟩ := hS3.cells
      obtain ⟨-, -, -, -, r4, -⟩ := hO3.cells
      have rf := hO3.fz 4
      have HS3 := Lib.hid hS3
      have HR3 := Lib.hid hR3
      have HO3 := Lib.hid hO3
      have HB3 := Lib.hid hB3
      have HZ3 := Lib.hid hz3'
      have hKl : keys.length ≤ 1000000 := by have := HKL.out.2.1; omega
      have hK3 := HK.out.move (P' := P) hB3.size (fun q hq hlt => ⟨hq, hB3.block q hlt⟩)
      have HK3 := Lib.hid hK3
      have hs1 : w1.heap.size = w.heap.size + 1 := hz1'
      have hs2 : w2.heap.size = w.heap.size + 2 := hz2'
      clear hS1 hS2 hS3 hR1 hR3 hO3 hb1 hb2 hb3 hB2 hB3 h1 hK3
      go_enter Tryz.func11, Tryz.ntmps11
      go_wp2_with (at_builtin; refine wpList_append_keys (P := P) _ rfl _ _ rfl (w.heap.size + 3) (.slice none 0 0) 0 [] rfl (World.ownsRow_nil _ _ _ _) _ keys rfl HK3.out ?bound ?base ?main)
      case bound => omega
      case base => rw [HZ3.out]; exact Nat.le_refl _
      intro vK wK hownK hgrowK
      have hbK : Below w3.heap.size w3 wK := ⟨hgrowK.os, hgrowK.tape, hgrowK.output, hgrowK.size, fun q hq => hgrowK.block q hq (fun e => by cases e)⟩
      have hlK := hownK.lt
      have hKc : RowIn (Kept w.heap.size (.slice none 0 0)) (wK.setCell ⟨w.heap.size + 2, 4, none⟩ vK) vK keys.length (keys.map Value.string) :=
        RowIn.of_own' (ownsRow_keeps hownK (D := (· = w.heap.size + 2)) (Keeps.setCell (D := (· = w.heap.size + 2)) (Keeps.refl _ _) (q := ⟨w.heap.size + 2, 4, none⟩) (.inr rfl) _) (fun q e h => by have := (hlK q e).1; omega)) (fun q e => ⟨(hlK q e).1, fun h => by cases h⟩)
      have H0 : Hid (TcpSt w k t u z (.slice a list.length c) (.slice a' keys.length c') keys [] (.slice none 0 0) vK [] (wK.setCell ⟨w.heap.size + 2, 4, none⟩ vK)) := Lib.hid
        ⟨(HS3.out.step hbK).far (by show w.heap.size ≠ w.heap.size + 2; omega) _, (HR3.out.step hbK).far (by show w.heap.size + 1 ≠ w.heap.size + 2; omega) _, (HO3.out.step hbK).put4 _, World.ownsRow_nil _ _ _ _, ValsC.nil, hKc,
          (HB3.out.trans (hbK.mono HB3.out.size)).setCell (p := ⟨w.heap.size + 2, 4, none⟩) (by show w.heap.size ≤ w.heap.size + 2; omega) _⟩
      obtain ⟨aK, cK, rfl⟩ := hKc.form
      have d4 : wK.cell? ⟨w.heap.size + 2, 4, none⟩ = some (.slice none 0 0) := ((HO3.out.step hbK).cells).2.2.2.2.1
      have df : wK.frozen? ⟨w.heap.size + 2, 4, none⟩ = false := (HO3.out.step hbK).fz 4
      have p3K : wK.cell? ⟨w.heap.size, 3, none⟩ = some (.slice a list.length c) := ((HS3.out.step hbK).cells).2.2.2.1
      clear hownK hgrowK hbK hlK hKc p0 p1 p2 p3 p4 p5 q4 r4 rf hw1 hw2 hw3 hz1' hz2' hz3' hs1 hs2
      go_wp2_with fail
      generalize wK.setCell ⟨w.heap.size + 2, 4, none⟩ (.slice aK keys.length cK) = w4 at *
      clear d4 df p3K HS3 HR3 HO3 HB3 HZ3 HK3
      go_loopg [24] list.length (fun g v wr => ∃ (i : Nat) (vL vK : Value) (ys : List Value), i ≤ list.length ∧ g = list.length - i ∧ v = .int .i64 i ∧ TcpSt w k t u z (.slice a list.length c) (.slice a' keys.length c') keys (list.take i) vL vK ys wr)
      case atStart => exact ⟨0, _, _, _, Nat.zero_le _, by omega, rfl, by rw [List.take_zero]; exact H0.out⟩
      case round =>
        obtain ⟨i, vL, vK, ys, hi', hgk, rfl, hst⟩ := hrel
        have HST := Lib.hid hst
        by_cases hlt : i < list.length
        · obtain ⟨x, hx⟩ : ∃ x, list[i]? = some x := ⟨_, List.getElem?_eq_getElem hlt⟩
          have hsx : SizeOf.sizeOf x < m := by have := sizeOf_mem hx; have := HX.out; omega
          have hkx := okIs_at HKL.out.2.2 hx
          have htake : list.take (i + 1) = list.take i ++ [x] := by rw [List.take_add_one, hx]; rfl
          have hlen : (list.take i).length = i := by rw [List.length_take]; omega
          obtain ⟨b1, o1, k6, t6, n6, a6, l6, c6, a7, l7, c7, z7, rfl, hvx, hE1⟩ := el_at HROW.out HVS.out hx hst.below
          have HC := Lib.hid (fun W (hb : Below w.heap.size w W) => IH.out x hsx hkx W _ _ _ _ _ _ _ _ _ _ (hvx.step hb))
          have hb5 := sbelow_new wr (.cells #[.int .i64 k6, .string t6, .int .u64 n6, .slice a6 l6 c6, .slice a7 l7 c7, .int .i64 z7] 27)
          have hst5 := hst.step hb5
          have hq5 : wr.heap.size < (wr.alloc (.cells #[.int .i64 k6, .string t6, .int .u64 n6, .slice a6 l6 c6, .slice a7 l7 c7, .int .i64 z7] 27)).heap.size := by simp
          have hS5 : SixAt (wr.alloc (.cells #[.int .i64 k6, .string t6, .int .u64 n6, .slice a6 l6 c6, .slice a7 l7 c7, .int .i64 z7] 27)) wr.heap.size (.int .i64 k6) (.string t6) (.int .u64 n6) (.slice a6 l6 c6) (.slice a7 l7 c7) (.int .i64 z7) := heap_alloc_new _ _
          have hvl : ∀ q, vL.ownBlock = some q → q < wr.heap.size := fun q e => (hst.own.lt q e).2
          obtain ⟨va, vc, rfl⟩ := hst.list
          rw [hlen] at *
          obtain ⟨-, g0, g1, g2, g3, g4, g5⟩ := hE1
          clear hx hsx hkx hvx hst hb5
          go_wp2_with fail
          generalize wr.alloc (.cells #[.int .i64 k6, .string t6, .int .u64 n6, .slice a6 l6 c6, .slice a7 l7 c7, .int .i64 z7] 27) = w5 at *
          have hd5 := hst5.step (Below.refl w5.heap.size w5).drew
          have hBW := hd5.below
          refine region_T (fun W' : World => W'.cell? ⟨w.heap.size + 2, 3, none⟩ = some (.slice va i vc) ∧ SixAt W' wr.heap.size (.int .i64 k6) (.string t6) (.int .u64 n6) (.slice a6 l6 c6) (.slice a7 l7 c7) (.int .i64 z7)) 5 (by kernel_rfl) ?_
          have hS0 : (fun W' : World => W'.cell? ⟨w.heap.size + 2, 3, none⟩ = some (.slice va i vc) ∧ SixAt W' wr.heap.size (.int .i64 k6) (.string t6) (.int .u64 n6) (.slice a6 l6 c6) (.slice a7 l7 c7) (.int .i64 z7)) w5.drew := ⟨hd5.out.cells.2.2.2.1, hS5.step (Below.refl w5.heap.size w5).drew⟩
          refine wpT_take (i := 0) (v := .pointer (some ⟨w.heap.size + 2, 3, none⟩)) rfl (by kernel_rfl) (by kernel_rfl) (by kernel_rfl) (by kernel_rfl) (by kernel_rfl) (by kernel_rfl) (by kernel_rfl) (by kernel_rfl) (fun _ _ _ h => h) (Or.inl ⟨by rfl, ?_⟩) hS0 ?_
          · rintro w' -
            go_simp
          try simp only [Act.put]
          refine wpT_take (i := 1) (v := .slice va i vc) rfl (by kernel_rfl) (by kernel_rfl) (by kernel_rfl) (by kernel_rfl) (by kernel_rfl) (by kernel_rfl) (by kernel_rfl) (by kernel_rfl) (fun _ _ _ h => h) (Or.inl ⟨by rfl, ?_⟩) hS0 ?_
          · rintro w' ⟨s0, -⟩
            go_simp
          try simp only [Act.put]
          refine wpT_take (i := 2) (v := .agg #[.int .i64 k6, .string t6, .int .u64 n6, .slice a6 l6 c6, .slice a7 l7 c7, .int .i64 z7]) rfl (by kernel_rfl) (by kernel_rfl) (by kernel_rfl) (by kernel_rfl) (by kernel_rfl) (by kernel_rfl) (by kernel_rfl) (by kernel_rfl) (fun _ _ _ h => h) (Or.inl ⟨by rfl, ?_⟩) hS0 ?_
          · rintro w' ⟨-, s1⟩
            obtain ⟨y0, y1, y2, y3, y4, y5⟩ := s1.cells
            go_simp
          try simp only [Act.put]
          refine wpT_one (i := 3) (by kernel_rfl) rfl ?_
          intro KK hKK
          go_simp
          refine (HC.out _ hBW).mono ?_
          rintro e w6 ⟨aa, la, ca, ab, lb, cb, rfl, hvx6, b6⟩
          have hst6 := hd5.step b6
          have hS6 : (fun W' : World => W'.cell? ⟨w.heap.size + 2, 3, none⟩ = some (.slice va i vc) ∧ SixAt W' wr.heap.size (.int .i64 k6) (.string t6) (.int .u64 n6) (.slice a6 l6 c6) (.slice a7 l7 c7) (.int .i64 z7)) w6 := ⟨hst6.out.cells.2.2.2.1, hS0.2.step b6⟩
          refine hKK _ _ ⟨fun _ => hS6, ?_⟩
          clear hKK
          try simp only [Act.put]
          have hb7 := sbelow_new w6 (.cells #[.int .i64 k6, .string t6, .int .u64 n6, .slice aa la ca, .slice ab lb cb, .int .i64 z7] 34)
          have hst7 := hst6.step hb7
          have hvx7 := hvx6.step hb7
          have hN7 := heap_alloc_new w6 (.cells #[.int .i64 k6, .string t6, .int .u64 n6, .slice aa la ca, .slice ab lb cb, .int .i64 z7] 34)
          have hS7 : (fun W' : World => W'.cell? ⟨w.heap.size + 2, 3, none⟩ = some (.slice va i vc) ∧ SixAt W' wr.heap.size (.int .i64 k6) (.string t6) (.int .u64 n6) (.slice a6 l6 c6) (.slice a7 l7 c7) (.int .i64 z7)) (w6.alloc (.cells #[.int .i64 k6, .string t6, .int .u64 n6, .slice aa la ca, .slice ab lb cb, .int .i64 z7] 34)) := ⟨hst7.out.cells.2.2.2.1, hS6.2.step hb7⟩
          have hz6 : w.heap.size + 3 ≤ (w6.alloc (.cells #[.int .i64 k6, .string t6, .int .u64 n6, .slice aa la ca, .slice ab lb cb, .int .i64 z7] 34)).heap.size := hst7.out.lt
          refine wpT_one (i := 4) (by kernel_rfl) rfl ?_
          intro KK hKK
          go_simp
          refine hKK _ _ ⟨fun _ => hS7, ?_⟩
          clear hKK hS0
          try simp only [Act.put]
          refine wpT_tail 5 3 rfl rfl (by kernel_rfl) (by kernel_rfl) ?_
          have hown7 := hst7.own
          rw [show (list.take i).length = i by rw [List.length_take]; omega] at hown7
          have hil : i ≤ 1000000000 := by have := HLL.out; omega
          simp only [List.drop_succ_cons, List.drop_zero]
          refine wpList_append_lies _ rfl _ _ 32 rfl (w.heap.size + 3) 34 i0 (.agg #[.int .i64 0, .string ⟨#[]⟩, .int .u64 0, .slice none 0 0, .slice none 0 0, .int .i64 0]) 6 88 Tryz.underlying32 hi hz0 hz1 hz2 rfl (by decide) _ _ _ rfl hown7 ⟨w6.heap.size, 0, none⟩ 1 1 [.int .i64 k6, .string t6, .int .u64 n6, .slice aa la ca, .slice ab lb cb, .int .i64 z7] rfl rfl (World.news_of_block hN7) ?ones (by decide) ?len ?bytes hz6 _ rfl ?main6
          case ones => intro y hy; simp only [List.mem_cons, List.not_mem_nil, or_false] at hy; rcases hy with rfl | rfl | rfl | rfl | rfl | rfl <;> rfl
          case len => unfold maxLen; omega
          case bytes => omega
          intro g cap w8 hown8 hgrow8 hat8 hlt8
          have hst8 := hst7.push (n := i) (by rw [List.length_take]; omega) hvx7 hst5.lt3 (fun q e => Nat.lt_trans (hvl q e) hq5) hown8 hgrow8 hat8
          have hrow : (Value.slice va i vc).ownBlock ≠ some (w.heap.size + 2) := fun e => by have := (hown7.lt _ e).1; omega
          have d3 := (hst7.out.grown hgrow8 hrow).cells.2.2.2.1
          have df := (hst7.out.grown hgrow8 hrow).fz 3
          clear hown8 hgrow8 hat8 hlt8 hst7 hst6 hd5 hst5 hvx7 hvx6 hS7 hS6 hS5 hN7 hown7 hb7 hrow
          have HST8 := Lib.hid hst8
          clear hst8
          go_wp2_with fail
          go_roundg (list.length - (i + 1))
          case measure => omega
          case rel => exact ⟨i + 1, _, _, _, by omega, rfl, rfl, by rw [htake]; exact HST8.out⟩
        · obtain rfl : i = list.length := by omega
          rw [List.take_length] at hst
          obtain ⟨va, vc, rfl⟩ := hst.list
          obtain ⟨s0, s1, s2, s3, s4, s5⟩ := hst.out.cells
          obtain ⟨r0, r1, r2, r3, r4, r5⟩ := hst.res.cells
          have rf := hst.res.fz
          obtain ⟨q0, q1, q2, q3, q4, q5⟩ := (hst.res.set6 (.int .i64 k) (.string t) (.int .u64 u) (.slice va list.length vc) vK (.int .i64 z)).cells
          have hbl : Below w.heap.size w (set6 wr (w.heap.size + 1) 0 (.int .i64 k) (.string t) (.int .u64 u) (.slice va list.length vc) vK (.int .i64 z)) := by
            unfold set6
            exact (((((hst.below.setCell (p := ⟨w.heap.size + 1, 0, none⟩) (Nat.le_succ _) _).setCell (p := ⟨w.heap.size + 1, 0 + 1, none⟩) (Nat.le_succ _) _).setCell (p := ⟨w.heap.size + 1, 0 + 2, none⟩) (Nat.le_succ _) _).setCell (p := ⟨w.heap.size + 1, 0 + 3, none⟩) (Nat.le_succ _) _).setCell (p := ⟨w.heap.size + 1, 0 + 4, none⟩) (Nat.le_succ _) _).setCell (p := ⟨w.heap.size + 1, 0 + 5, none⟩) (Nat.le_succ _) _
          have hk6 : Keeps (· = w.heap.size + 1) wr (set6 wr (w.heap.size + 1) 0 (.int .i64 k) (.string t) (.int .u64 u) (.slice va list.length vc) vK (.int .i64 z)) := by
            exact keeps_set6 wr (w.heap.size + 1) 0 _ _ _ _ _ _
          have hmv : ∀ q, Kept w.heap.size (.slice va list.length vc) q → q < wr.heap.size → w.heap.size ≤ q ∧ (set6 wr (w.heap.size + 1) 0 (.int .i64 k) (.string t) (.int .u64 u) (.slice va list.length vc) vK (.int .i64 z)).heap[q]? = wr.heap[q]? :=
            fun q hq hlt => ⟨by have := hq.1; omega, hk6.block q hlt (by have := hq.1; omega)⟩
          have hown9 := ownsRow_keeps hst.own hk6 (fun q e => by have := (hst.own.lt q e).1; omega)
          have hval : ValC (fun q => w.heap.size ≤ q) (set6 wr (w.heap.size + 1) 0 (.int .i64 k) (.string t) (.int .u64 u) (.slice va list.length vc) vK (.int .i64 z)) [.int .i64 k, .string t, .int .u64 u, .slice va list.length vc, vK, .int .i64 z] (.mk k t u list keys z) := by
            unfold ValC
            exact ⟨_, _, ys, rfl, hst.keys.move hk6.size hmv, RowIn.of_own' hown9 (fun q e => by have := (hst.own.lt q e).1; omega), hst.vals.move hk6.size hmv⟩
          obtain ⟨ak, ck, rfl⟩ := hst.keys.form
          have HVAL := Lib.hid hval
          have HBL := Lib.hid hbl
          clear hval hbl hk6 hmv hown9 hst
          have rf0 := rf 0
          have rf1 := rf 1
          have rf2 := rf 2
          have rf3 := rf 3
          have rf4 := rf 4
          have rf5 := rf 5
          clear rf
          go_wp2_with fail
          unfold set6 at q0 q1 q2 q3 q4 q5 HVAL HBL
          exact bodyPost_ret (v := .agg #[.int .i64 k, .string t, .int .u64 u, .slice va list.length vc, .slice ak keys.length ck, .int .i64 z]) (by simp [results, Tryz.results11, go_sem, q0, q1, q2, q3, q4, q5]) rfl ⟨_, _, _, _, _, _, rfl, HVAL.out, HBL.out⟩
end Go.Proofs.YtajmlkephefapaaGreatDoor

namespace Go.Proofs.YtajmlkephefapaaGreatDoor
open Go.RowKit Go.Extern.Stop Go.Stop Go.Extern Go.WideMaps

/-- What a value that may be written has. -/
theorem chk_facts {d k : Int} {t : ByteArray} {u : Int} {list : List Val} {keys : List ByteArray} {z : Int} (hc : (chkV d (.mk k t u list keys z)).1 = 0) :
    (k = 0 ∨ k = 1 ∨ k = 2 ∨ k = 3 ∨ k = 4 ∨ k = 5 ∨ k = 6) ∧ (k = 3 → u = capI u) ∧ (k = 6 → keys.length = list.length) ∧ ((k = 5 ∨ k = 6) → ∀ y ∈ list, (chkV (d + 1) y).1 = 0) := by
  rw [chkV] at hc
  by_cases hf : flawI d k t u list.length keys.length ≠ 0
  · rw [if_pos hf] at hc; exact absurd hc hf
  rw [if_neg hf] at hc
  have hf0 : flawI d k t u list.length keys.length = 0 := by simpa using hf
  unfold flawI at hf0
  have hd : ¬ ((k = 5 ∨ k = 6) ∧ 64 ≤ d) := fun hq => by rw [if_pos hq] at hf0; exact absurd hf0 (by decide)
  rw [if_neg hd] at hf0
  have hr : ¬ (k < 0 ∨ 6 < k) := fun hq => by rw [if_pos hq] at hf0; exact absurd hf0 (by decide)
  rw [if_neg hr] at hf0
  have h3 : ¬ (k = 3 ∧ u ≠ capI u) := fun hq => by rw [if_pos hq] at hf0; exact absurd hf0 (by decide)
  rw [if_neg h3] at hf0
  have h4 : ¬ (k = 4 ∧ t.data.toList.all mayS = false) := fun hq => by rw [if_pos hq] at hf0; exact absurd hf0 (by decide)
  rw [if_neg h4] at hf0
  have h6 : ¬ (k = 6 ∧ keys.length ≠ list.length) := fun hq => by rw [if_pos hq] at hf0; exact absurd hf0 (by decide)
  have hkl : k = 6 → keys.length = list.length := fun h => by
    by_cases hq : keys.length = list.length
    · exact hq
    · exact absurd ⟨h, hq⟩ h6
  refine ⟨by omega, fun h => by
    by_cases hq : u = capI u
    · exact hq
    · exact absurd ⟨h, hq⟩ h3, hkl, ?_⟩
  rintro (rfl | rfl)
  · rw [if_pos rfl] at hc
    exact chkA_ok hc
  · rw [if_neg (by decide), if_pos rfl] at hc
    exact chkO_ok (hkl rfl).symm hc
theorem inkJ_mono (obj : Bool) (keys : List ByteArray) (ts : List (List UInt8)) {i n : Nat} (h : i ≤ n) : (inkJ obj keys ts i).length ≤ (inkJ obj keys ts n).length := inkJ_le obj keys ts n i h
theorem bytes_app (a b : List UInt8) : (⟨a.toArray⟩ : ByteArray) ++ ⟨b.toArray⟩ = ⟨(a ++ b).toArray⟩ := by
  apply ByteArray.ext
  apply Array.ext'
  simp
/-- On the way through a value's items. -/
def RtR6 (w : World) (obj : Bool) (keys : List ByteArray) (ts : List (List UInt8)) (k : Int) (t : ByteArray) (u z : Int) (vl vk : Value) (n g : Nat) (v i' : Value) (wr : World) : Prop :=
  ∃ i : Nat, i ≤ n ∧ g = n - i ∧ v = .string ⟨(inkJ obj keys ts i).toArray⟩ ∧ i' = .int .i64 i ∧ SixR wr w.heap.size (.int .i64 k) (.string t) (.int .u64 u) vl vk (.int .i64 z) ∧ Below w.heap.size w wr
set_option maxRecDepth 100000 in
set_option maxHeartbeats 8000000 in
theorem r6text_go (P : Nat → Prop) : ∀ (m : Nat) (x : Val), SizeOf.sizeOf x < m → ∀ d : Int, (chkV d x).1 = 0 → okI x → okT x → okN x → (inkV x).length ≤ 100000 → ∀ (w : World) (k : Int) (t : ByteArray) (u : Int) (a : Option Addr) (l c : Nat) (a' : Option Addr) (l' c' : Nat) (z : Int),
    ValC P w [.int .i64 k, .string t, .int .u64 u, .slice a l c, .slice a' l' c', .int .i64 z] x →
    Calls Tryz.prog 24 #[.agg #[.int .i64 k, .string t, .int .u64 u, .slice a l c, .slice a' l' c', .int .i64 z]] w fun e w' => e = .returned (.string ⟨(inkV x).toArray⟩) ∧ Below w.heap.size w w' := by
  intro m
  induction m with
  | zero => intro x hx; exact absurd hx (Nat.not_lt_zero _)
  | succ m ih =>
    intro x hx d hc hok hot hon hlen w k t u a l c a' l' c' z hv
    cases x with
    | mk k1 t1 n1 list keys z1 =>
      obtain ⟨hkd, hk3, hk6, hks⟩ := chk_facts hc
      rw [okI] at hok
      rw [okT] at hot
      rw [okN] at hon
      unfold ValC at hv
      obtain ⟨sl, sk', xs, e, hk, hl, hvs⟩ := hv
      simp only [List.cons.injEq, Value.int.injEq, Value.string.injEq, true_and, and_true] at e
      obtain ⟨rfl, rfl, rfl, rfl, rfl, rfl⟩ := e
      obtain ⟨_, _, es⟩ := hl.form
      simp only [Value.slice.injEq] at es
      obtain ⟨-, el, -⟩ := es
      subst el
      obtain ⟨_, _, es⟩ := hk.form
      simp only [Value.slice.injEq] at es
      obtain ⟨-, el, -⟩ := es
      subst el
      simp only [Val.mk.sizeOf_spec] at hx
      have HB0 := Lib.hid (sbelow_new w (.cells #[.int .i64 k, .string t, .int .u64 u, .slice a list.length c, .slice a' keys.length c', .int .i64 z] 34))
      have H60 : Hid (SixR (w.alloc (.cells #[.int .i64 k, .string t, .int .u64 u, .slice a list.length c, .slice a' keys.length c', .int .i64 z] 34)) w.heap.size (.int .i64 k) (.string t) (.int .u64 u) (.slice a list.length c) (.slice a' keys.length c') (.int .i64 z)) := Lib.hid (heap_alloc_new w _)
      obtain ⟨s0, s1, s2, s3, s4, s5⟩ := H60.out.cells
      have eV : inkV (.mk k t u list keys z) = if k = 0 then [110, 117, 108, 108] else if k = 1 then [102, 97, 108, 115, 101] else if k = 2 then [116, 114, 117, 101]
        else if k = 3 then Lib.decDigits (capI u).toNat else if k = 4 then quoL t.data.toList
        else if k = 5 then 91 :: (inkJ false keys (inkVs list) (inkVs list).length ++ [93])
        else if k = 6 then 123 :: (inkJ true keys (inkVs list) (inkVs list).length ++ [125]) else [] := by rw [inkV]
      rw [eV] at hlen ⊢
      have HDg := Lib.hid (fun W => rdigits_any u hon.1 W)
      have HQu := Lib.hid (fun W => rquote_any t hot.1 W)
      rcases hkd with rfl | rfl | rfl | rfl | rfl | rfl | rfl
      · simp only [if_true]
        clear hk hl hvs hok hot hon hlen hk3 hk6 hks ih hx hc eV
        go_enter Tryz.func24, Tryz.ntmps24
        go_wp2_with fail
        go_ret
        exact ⟨rfl, HB0.out⟩
      · show Calls _ _ _ _ fun e w' => e = .returned (.string ⟨([102, 97, 108, 115, 101] : List UInt8).toArray⟩) ∧ Below w.heap.size w w'
        clear hk hl hvs hok hot hon hlen hk3 hk6 hks ih hx hc eV
        go_enter Tryz.func24, Tryz.ntmps24
        go_wp2_with fail
        go_ret
        exact ⟨rfl, HB0.out⟩
      · show Calls _ _ _ _ fun e w' => e = .returned (.string ⟨([116, 114, 117, 101] : List UInt8).toArray⟩) ∧ Below w.heap.size w w'
        clear hk hl hvs hok hot hon hlen hk3 hk6 hks ih hx hc eV
        go_enter Tryz.func24, Tryz.ntmps24
        go_wp2_with fail
        go_ret
        exact ⟨rfl, HB0.out⟩
      · show Calls _ _ _ _ fun e w' => e = .returned (.string ⟨(Lib.decDigits (capI u).toNat).toArray⟩) ∧ Below w.heap.size w w'
        clear hk hl hvs hok hot hon hlen hk3 hk6 hks ih hx hc eV
        generalize (⟨(Lib.decDigits (capI u).toNat).toArray⟩ : ByteArray) = D at *
        go_enter Tryz.func24, Tryz.ntmps24
        go_wp2_with fail
        refine (HDg.out _).mono ?_
        rintro e w2 ⟨rfl, b2⟩
        have HB2 := Lib.hid (HB0.out.trans (b2.mono HB0.out.size))
        go_wp2_with fail
        go_ret
        exact ⟨rfl, HB2.out⟩
      · show Calls _ _ _ _ fun e w' => e = .returned (.string ⟨(quoL t.data.toList).toArray⟩) ∧ Below w.heap.size w w'
        clear hk hl hvs hok hot hon hlen hk3 hk6 hks ih hx hc eV
        generalize (⟨(quoL t.data.toList).toArray⟩ : ByteArray) = D at *
        go_enter Tryz.func24, Tryz.ntmps24
        go_wp2_with fail
        refine (HQu.out _).mono ?_
        rintro e w2 ⟨rfl, rfl⟩
        go_wp2_with fail
        go_ret
        exact ⟨rfl, HB0.out⟩
      · show Calls _ _ _ _ fun e w' => e = .returned (.string ⟨(91 :: (inkJ false keys (inkVs list) (inkVs list).length ++ [93]) : List UInt8).toArray⟩) ∧ Below w.heap.size w w'
        replace hlen : (91 :: (inkJ false keys (inkVs list) (inkVs list).length ++ [93]) : List UInt8).length ≤ 100000 := hlen
        simp only [List.length_append, List.length_cons, List.length_nil] at hlen
        rw [inkVs_len] at hlen ⊢
        have HROW := Lib.hid hl
        have HVS := Lib.hid hvs
        have HKS := Lib.hid hk
        have HKL := Lib.hid hk6
        have HLL := Lib.hid hok.1
        have HKY := Lib.hid hot.2.1
        have HLen := Lib.hid hlen
        have IH := Lib.hid (fun (i : Nat) (y : Val) (hy : list[i]? = some y) (hl : (inkV y).length ≤ 100000) => ih y (by have := sizeOf_mem hy; omega) (d + 1) (hks (by decide) y (List.mem_of_getElem? hy)) (okIs_at hok.2.2 hy) (okTs_at hot.2.2 hy) (okNs_mem hon.2 (List.mem_of_getElem? hy)) hl)
        clear hk hl hvs hok hot hon hlen hk3 hk6 hks ih hx hc eV
        go_enter Tryz.func24, Tryz.ntmps24
        go_wp2_with fail
        clear s0 s1 s2 s3 s4 s5
        go_loopg [3, 30] list.length (fun g v i' wr => RtR6 w false keys (inkVs list) 5 t u z (.slice a list.length c) (.slice a' keys.length c') list.length g v i' wr)
        case atStart => exact ⟨0, Nat.zero_le _, by omega, rfl, rfl, H60.out, HB0.out⟩
        case round =>
          clear HB0 H60
          obtain ⟨i, hi, hgi, rfl, rfl, h6, hb⟩ := hrel
          have H6 := Lib.hid h6
          have HB := Lib.hid hb
          have hm := inkJ_mono false keys (inkVs list) hi
          have hL := HLen.out
          have hO : (⟨(inkJ false keys (inkVs list) i).toArray⟩ : ByteArray).size ≤ 100000 := by rw [sizeQ]; omega
          by_cases hlt : i < list.length
          · obtain ⟨y, hy⟩ : ∃ e, list[i]? = some e := ⟨_, List.getElem?_eq_getElem hlt⟩
            have hm2 := inkJ_mono false keys (inkVs list) (show i + 1 ≤ list.length from hlt)
            have hn := inkV_pos false keys (inkVs list) i
            rw [inkVs_at hy] at hn
            obtain ⟨b1, o1, k6, t6, u6, a6, l6, c6, a7, l7, c7, z7, rfl, hvx, hE1⟩ := el_at HROW.out HVS.out hy hb
            have hbn := sbelow_new wr (.cells #[.int .i64 k6, .string t6, .int .u64 u6, .slice a6 l6 c6, .slice a7 l7 c7, .int .i64 z7] 34)
            have hS5 : Hid (SixR (wr.alloc (.cells #[.int .i64 k6, .string t6, .int .u64 u6, .slice a6 l6 c6, .slice a7 l7 c7, .int .i64 z7] 34)) wr.heap.size (.int .i64 k6) (.string t6) (.int .u64 u6) (.slice a6 l6 c6) (.slice a7 l7 c7) (.int .i64 z7)) := Lib.hid (heap_alloc_new _ _)
            have hb1 := hb.trans (hbn.mono hb.size)
            have hylen : (inkV y).length ≤ 100000 := by rw [hn] at hm2; simp only [List.length_append] at hm2; omega
            have HC := Lib.hid (fun W (hW : Below w.heap.size w W) => IH.out i y hy hylen W _ _ _ _ _ _ _ _ _ _ (hvx.step hW))
            have HB1 := Lib.hid hb1
            have H61 := Lib.hid (h6.step hbn)
            have hX : (⟨(inkV y).toArray⟩ : ByteArray).size ≤ 100000 := by rw [sizeQ]; exact hylen
            have HN0 : Hid (i = 0 → (⟨(inkJ false keys (inkVs list) (i + 1)).toArray⟩ : ByteArray) = ⟨(inkJ false keys (inkVs list) i).toArray⟩ ++ ⟨(inkV y).toArray⟩) := Lib.hid (fun h0 => by
              rw [hn, if_pos h0]; apply ByteArray.ext; apply Array.ext'; simp)
            have HN1 : Hid (i ≠ 0 → (⟨(inkJ false keys (inkVs list) (i + 1)).toArray⟩ : ByteArray) = ⟨(inkJ false keys (inkVs list) i).toArray⟩ ++ ⟨#[44]⟩ ++ ⟨(inkV y).toArray⟩) := Lib.hid (fun h0 => by
              rw [hn, if_neg h0]; apply ByteArray.ext; apply Array.ext'; simp)
            have HR : Hid (∀ V, V = Value.string ⟨(inkJ false keys (inkVs list) (i + 1)).toArray⟩ → ∀ W, SixR W w.heap.size (.int .i64 5) (.string t) (.int .u64 u) (.slice (some ⟨b1, o1, none⟩) list.length c) (.slice a' keys.length c') (.int .i64 z) → Below w.heap.size w W → RtR6 w false keys (inkVs list) 5 t u z (.slice (some ⟨b1, o1, none⟩) list.length c) (.slice a' keys.length c') list.length (list.length - (i + 1)) V (.int .i64 ((i + 1 : Nat) : Int)) W) :=
              Lib.hid (fun V hV W h hb => ⟨i + 1, hlt, rfl, hV, rfl, h, hb⟩)
            generalize (⟨(inkJ false keys (inkVs list) (i + 1)).toArray⟩ : ByteArray) = O2 at *
            generalize (⟨(inkJ false keys (inkVs list) i).toArray⟩ : ByteArray) = O at *
            generalize (⟨(inkV y).toArray⟩ : ByteArray) = X at *
            have hz1 : ¬ 9223372036854775807 < O.size + 1 := by omega
            have hz2 : ¬ 9223372036854775807 < O.size + X.size := by omega
            have hz3 : ¬ 9223372036854775807 < O.size + 1 + X.size := by omega
            obtain ⟨-, g0, g1, g2, g3, g4, g5⟩ := hE1
            obtain ⟨r0, r1, r2, r3, r4, r5⟩ := hS5.out.cells
            obtain ⟨s0, s1, s2, s3, s4, s5⟩ := H61.out.cells
            have hll := HLL.out
            clear hn hm hm2 hL hylen hbn hvx hy hb h6 hb1
            by_cases h0 : i = 0
            · have HO := Lib.hid (HN0.out h0)
              have hi0 : ¬ (0 : Int) < (i : Int) := by omega
              clear h0
              go_wp2_with fail
              refine (HC.out _ HB1.out).mono ?_
              rintro e w4 ⟨rfl, b4⟩
              have HB4 := Lib.hid (HB1.out.trans (b4.mono HB1.out.size))
              have H64 := Lib.hid (H61.out.step b4)
              clear b4 r0 r1 r2 r3 r4 r5 s0 s1 s2 s3 s4 s5 g0 g1 g2 g3 g4 g5
              go_wp2_with fail
              go_roundg (list.length - (i + 1))
              case measure => omega
              case rel => exact HR.out _ (by rw [HO.out]) _ H64.out HB4.out
            · have HO := Lib.hid (HN1.out h0)
              have hi0 : (0 : Int) < (i : Int) := by omega
              clear h0
              go_wp2_with fail
              refine (HC.out _ HB1.out).mono ?_
              rintro e w4 ⟨rfl, b4⟩
              have HB4 := Lib.hid (HB1.out.trans (b4.mono HB1.out.size))
              have H64 := Lib.hid (H61.out.step b4)
              clear b4 r0 r1 r2 r3 r4 r5 s0 s1 s2 s3 s4 s5 g0 g1 g2 g3 g4 g5
              go_wp2_with fail
              go_roundg (list.length - (i + 1))
              case measure => omega
              case rel => exact HR.out _ (by rw [HO.out]) _ H64.out HB4.out
          · obtain rfl : i = list.length := by omega
            have HE : Hid ((⟨(91 :: (inkJ false keys (inkVs list) list.length ++ [93]) : List UInt8).toArray⟩ : ByteArray) = ⟨#[91]⟩ ++ ⟨(inkJ false keys (inkVs list) list.length).toArray⟩ ++ ⟨#[93]⟩) := Lib.hid (by
              apply ByteArray.ext; apply Array.ext'; simp)
            generalize (⟨(inkJ false keys (inkVs list) list.length).toArray⟩ : ByteArray) = O at *
            have hz1 : ¬ 9223372036854775807 < 1 + O.size := by omega
            have hz2 : ¬ 9223372036854775807 < 1 + O.size + 1 := by omega
            obtain ⟨s0, s1, s2, s3, s4, s5⟩ := H6.out.cells
            clear hm hL hb h6
            go_wp2_with fail
            go_ret
            exact ⟨Eq.trans (b := Ending.returned (.string (⟨#[91]⟩ ++ O ++ ⟨#[93]⟩))) rfl (congrArg (fun b => Ending.returned (.string b)) HE.out.symm), HB.out⟩
      · show Calls _ _ _ _ fun e w' => e = .returned (.string ⟨(123 :: (inkJ true keys (inkVs list) (inkVs list).length ++ [125]) : List UInt8).toArray⟩) ∧ Below w.heap.size w w'
        replace hlen : (123 :: (inkJ true keys (inkVs list) (inkVs list).length ++ [125]) : List UInt8).length ≤ 100000 := hlen
        simp only [List.length_append, List.length_cons, List.length_nil] at hlen
        rw [inkVs_len] at hlen ⊢
        have HROW := Lib.hid hl
        have HVS := Lib.hid hvs
        have HKS := Lib.hid hk
        have HKL := Lib.hid hk6
        have HLL := Lib.hid hok.1
        have HKY := Lib.hid hot.2.1
        have HLen := Lib.hid hlen
        have IH := Lib.hid (fun (i : Nat) (y : Val) (hy : list[i]? = some y) (hl : (inkV y).length ≤ 100000) => ih y (by have := sizeOf_mem hy; omega) (d + 1) (hks (by decide) y (List.mem_of_getElem? hy)) (okIs_at hok.2.2 hy) (okTs_at hot.2.2 hy) (okNs_mem hon.2 (List.mem_of_getElem? hy)) hl)
        clear hk hl hvs hok hot hon hlen hk3 hk6 hks ih hx hc eV
        go_enter Tryz.func24, Tryz.ntmps24
        go_wp2_with fail
        clear s0 s1 s2 s3 s4 s5
        go_loopg [3, 30] list.length (fun g v i' wr => RtR6 w true keys (inkVs list) 6 t u z (.slice a list.length c) (.slice a' keys.length c') list.length g v i' wr)
        case atStart => exact ⟨0, Nat.zero_le _, by omega, rfl, rfl, H60.out, HB0.out⟩
        case round =>
          clear HB0 H60
          obtain ⟨i, hi, hgi, rfl, rfl, h6, hb⟩ := hrel
          have H6 := Lib.hid h6
          have HB := Lib.hid hb
          have hm := inkJ_mono true keys (inkVs list) hi
          have hL := HLen.out
          have hO : (⟨(inkJ true keys (inkVs list) i).toArray⟩ : ByteArray).size ≤ 100000 := by rw [sizeQ]; omega
          by_cases hlt : i < list.length
          · obtain ⟨y, hy⟩ : ∃ e, list[i]? = some e := ⟨_, List.getElem?_eq_getElem hlt⟩
            have hkl : keys.length = list.length := HKL.out (by simp)
            obtain ⟨ky, hky⟩ : ∃ e, keys[i]? = some e := ⟨_, List.getElem?_eq_getElem (by omega)⟩
            have hkd : keys.getD i ⟨#[]⟩ = ky := by simp [List.getD, hky]
            have hik : i < keys.length := by omega
            have HQ := Lib.hid (fun W => rquote_any ky (HKY.out ky (List.mem_of_getElem? hky)) W)
            have hm2 := inkJ_mono true keys (inkVs list) (show i + 1 ≤ list.length from hlt)
            have hn := inkV_pos true keys (inkVs list) i
            rw [inkVs_at hy, hkd] at hn
            simp only [if_true] at hn
            obtain ⟨b1, o1, k6, t6, u6, a6, l6, c6, a7, l7, c7, z7, rfl, hvx, hE1⟩ := el_at HROW.out HVS.out hy hb
            have hbn := sbelow_new wr (.cells #[.int .i64 k6, .string t6, .int .u64 u6, .slice a6 l6 c6, .slice a7 l7 c7, .int .i64 z7] 34)
            have hS5 : Hid (SixR (wr.alloc (.cells #[.int .i64 k6, .string t6, .int .u64 u6, .slice a6 l6 c6, .slice a7 l7 c7, .int .i64 z7] 34)) wr.heap.size (.int .i64 k6) (.string t6) (.int .u64 u6) (.slice a6 l6 c6) (.slice a7 l7 c7) (.int .i64 z7)) := Lib.hid (heap_alloc_new _ _)
            have hb1 := hb.trans (hbn.mono hb.size)
            obtain ⟨kb, ko, rfl, kc⟩ := key_at HKS.out hky hb1
            have hylen : (inkV y).length ≤ 100000 := by rw [hn] at hm2; simp only [List.length_append] at hm2; omega
            have hqlen : (⟨(quoL ky.data.toList).toArray⟩ : ByteArray).size ≤ 100000 := by rw [hn] at hm2; simp only [List.length_append] at hm2; rw [sizeQ]; omega
            have HC := Lib.hid (fun W (hW : Below w.heap.size w W) => IH.out i y hy hylen W _ _ _ _ _ _ _ _ _ _ (hvx.step hW))
            have HB1 := Lib.hid hb1
            have H61 := Lib.hid (h6.step hbn)
            have hX : (⟨(inkV y).toArray⟩ : ByteArray).size ≤ 100000 := by rw [sizeQ]; exact hylen
            have HN0 : Hid (i = 0 → (⟨(inkJ true keys (inkVs list) (i + 1)).toArray⟩ : ByteArray) = ⟨(inkJ true keys (inkVs list) i).toArray⟩ ++ ⟨(quoL ky.data.toList).toArray⟩ ++ ⟨#[58]⟩ ++ ⟨(inkV y).toArray⟩) := Lib.hid (fun h0 => by
              rw [hn, if_pos h0]; apply ByteArray.ext; apply Array.ext'; simp)
            have HN1 : Hid (i ≠ 0 → (⟨(inkJ true keys (inkVs list) (i + 1)).toArray⟩ : ByteArray) = ⟨(inkJ true keys (inkVs list) i).toArray⟩ ++ ⟨#[44]⟩ ++ ⟨(quoL ky.data.toList).toArray⟩ ++ ⟨#[58]⟩ ++ ⟨(inkV y).toArray⟩) := Lib.hid (fun h0 => by
              rw [hn, if_neg h0]; apply ByteArray.ext; apply Array.ext'; simp)
            have HR : Hid (∀ V, V = Value.string ⟨(inkJ true keys (inkVs list) (i + 1)).toArray⟩ → ∀ W, SixR W w.heap.size (.int .i64 6) (.string t) (.int .u64 u) (.slice (some ⟨b1, o1, none⟩) list.length c) (.slice (some ⟨kb, ko, none⟩) keys.length c') (.int .i64 z) → Below w.heap.size w W → RtR6 w true keys (inkVs list) 6 t u z (.slice (some ⟨b1, o1, none⟩) list.length c) (.slice (some ⟨kb, ko, none⟩) keys.length c') list.length (list.length - (i + 1)) V (.int .i64 ((i + 1 : Nat) : Int)) W) :=
              Lib.hid (fun V hV W h hb => ⟨i + 1, hlt, rfl, hV, rfl, h, hb⟩)
            generalize (⟨(inkJ true keys (inkVs list) (i + 1)).toArray⟩ : ByteArray) = O2 at *
            generalize (⟨(inkJ true keys (inkVs list) i).toArray⟩ : ByteArray) = O at *
            generalize (⟨(inkV y).toArray⟩ : ByteArray) = X at *
            generalize (⟨(quoL ky.data.toList).toArray⟩ : ByteArray) = Q at *
            have hz4 : ¬ 9223372036854775807 < O.size + Q.size := by omega
            have hz5 : ¬ 9223372036854775807 < O.size + Q.size + 1 := by omega
            have hz6 : ¬ 9223372036854775807 < O.size + Q.size + 1 + X.size := by omega
            have hz7 : ¬ 9223372036854775807 < O.size + 1 + Q.size := by omega
            have hz8 : ¬ 9223372036854775807 < O.size + 1 + Q.size + 1 := by omega
            have hz9 : ¬ 9223372036854775807 < O.size + 1 + Q.size + 1 + X.size := by omega
            have hz1 : ¬ 9223372036854775807 < O.size + 1 := by omega
            have hz2 : ¬ 9223372036854775807 < O.size + X.size := by omega
            have hz3 : ¬ 9223372036854775807 < O.size + 1 + X.size := by omega
            obtain ⟨-, g0, g1, g2, g3, g4, g5⟩ := hE1
            obtain ⟨r0, r1, r2, r3, r4, r5⟩ := hS5.out.cells
            obtain ⟨s0, s1, s2, s3, s4, s5⟩ := H61.out.cells
            have hll := HLL.out
            clear hkl hky hkd hn hm hm2 hL hylen hbn hvx hy hb h6 hb1
            by_cases h0 : i = 0
            · have HO := Lib.hid (HN0.out h0)
              have hi0 : ¬ (0 : Int) < (i : Int) := by omega
              clear h0
              go_wp2_with fail
              refine (HQ.out _).mono ?_
              rintro e w0 ⟨rfl, rfl⟩
              go_wp2_with fail
              refine (HC.out _ HB1.out).mono ?_
              rintro e w4 ⟨rfl, b4⟩
              have HB4 := Lib.hid (HB1.out.trans (b4.mono HB1.out.size))
              have H64 := Lib.hid (H61.out.step b4)
              clear b4 r0 r1 r2 r3 r4 r5 s0 s1 s2 s3 s4 s5 g0 g1 g2 g3 g4 g5
              go_wp2_with fail
              go_roundg (list.length - (i + 1))
              case measure => omega
              case rel => exact HR.out _ (by rw [HO.out]) _ H64.out HB4.out
            · have HO := Lib.hid (HN1.out h0)
              have hi0 : (0 : Int) < (i : Int) := by omega
              clear h0
              go_wp2_with fail
              refine (HQ.out _).mono ?_
              rintro e w0 ⟨rfl, rfl⟩
              go_wp2_with fail
              refine (HC.out _ HB1.out).mono ?_
              rintro e w4 ⟨rfl, b4⟩
              have HB4 := Lib.hid (HB1.out.trans (b4.mono HB1.out.size))
              have H64 := Lib.hid (H61.out.step b4)
              clear b4 r0 r1 r2 r3 r4 r5 s0 s1 s2 s3 s4 s5 g0 g1 g2 g3 g4 g5
              go_wp2_with fail
              go_roundg (list.length - (i + 1))
              case measure => omega
              case rel => exact HR.out _ (by rw [HO.out]) _ H64.out HB4.out
          · obtain rfl : i = list.length := by omega
            have HE : Hid ((⟨(123 :: (inkJ true keys (inkVs list) list.length ++ [125]) : List UInt8).toArray⟩ : ByteArray) = ⟨#[123]⟩ ++ ⟨(inkJ true keys (inkVs list) list.length).toArray⟩ ++ ⟨#[125]⟩) := Lib.hid (by
              apply ByteArray.ext; apply Array.ext'; simp)
            generalize (⟨(inkJ true keys (inkVs list) list.length).toArray⟩ : ByteArray) = O at *
            have hz1 : ¬ 9223372036854775807 < 1 + O.size := by omega
            have hz2 : ¬ 9223372036854775807 < 1 + O.size + 1 := by omega
            obtain ⟨s0, s1, s2, s3, s4, s5⟩ := H6.out.cells
            clear hm hL hb h6
            go_wp2_with fail
            go_ret
            exact ⟨Eq.trans (b := Ending.returned (.string (⟨#[123]⟩ ++ O ++ ⟨#[125]⟩))) rfl (congrArg (fun b => Ending.returned (.string b)) HE.out.symm), HB.out⟩
end Go.Proofs.YtajmlkephefapaaGreatDoor

namespace Go.Proofs.YtajmlkephefapaaGreatDoor
open Go.RowKit Go.Extern.Stop Go.Stop Go.Extern Go.WideMaps

/-- What the document's check answers: the fault's number, and the words on the way. -/
def RP6 (F : Flt) (w : World) (e : Ending) (w' : World) : Prop :=
  ∃ a c, e = .returned (.tuple #[.int .i64 F.1, .slice a F.2.2.length c]) ∧ RowIn (fun _ => True) w' (.slice a F.2.2.length c) F.2.2.length (F.2.2.map Value.string) ∧ Below w.heap.size w w'
theorem RP6.nil {c a : Int} {w w' : World} (hb : Below w.heap.size w w') : RP6 (c, a, []) w (.returned (.tuple #[.int .i64 c, .slice none 0 0])) w' := ⟨none, 0, rfl, RowIn.nil _ _, hb⟩
theorem rdig_at (i : Nat) (hi : i ≤ 1000000) (w : World) : Calls Tryz.prog 44 #[.int .i64 (i : Int)] w fun e w' => e = .returned (.string (digN i)) ∧ Below w.heap.size w w' :=
  (digitsRef_any (i : Int) (by omega) (by omega) w).mono fun _ _ h => h
/-- One text in a row of its own. -/
theorem one_row (W : World) (y : ByteArray) : RowIn (fun _ => True) (W.alloc (.cells #[.string y] 9)) (.slice (some ⟨W.heap.size, 0, none⟩) 1 1) 1 [.string y] := by
  refine .inr ⟨W.heap.size, 0, 1, rfl, trivial, by simp, ?_⟩
  intro j u hj
  rw [Lib.cell_of_heap (heap_alloc_new W _)]
  cases j with
  | zero =>
    simp only [List.getElem?_cons_zero, Option.some.injEq] at hj
    subst hj
    rfl
  | succ j => simp at hj
theorem key_at6 {P : Nat → Prop} {w wr : World} {b o l c : Nat} {keys : List ByteArray} (hr : RowIn P w (.slice (some ⟨b, o, none⟩) l c) keys.length (keys.map Value.string)) {i : Nat} {y : ByteArray} (hy : keys[i]? = some y) (hb : Below w.heap.size w wr) :
    wr.cell? ⟨b, o + i, none⟩ = some (.string y) := by
  obtain ⟨_, _, e, h⟩ := key_at hr hy hb
  cases e
  exact h
theorem own_one (W : World) (y : ByteArray) : (W.alloc (.cells #[.string y] 9)).ownsRow 0 9 1 (.slice (some ⟨W.heap.size, 0, none⟩) 1 1) 1 [.string y] :=
  World.ownsRow_lit (base := 0) (size := 1) W #[.string y] 1 (Nat.zero_le _) (by decide) rfl
theorem hasKey_step {keys : List ByteArray} {j : Nat} {x y : ByteArray} (hx : keys[j]? = some x) (h : hasKey (keys.take j) y = false) (hne : x ≠ y) : hasKey (keys.take (j + 1)) y = false := by
  unfold hasKey at *
  rw [List.take_add_one, hx]
  simp only [Option.toList_some, List.any_append, h, Bool.false_or, List.any_cons, List.any_nil, Bool.or_false]
  exact decide_eq_false hne
theorem hasKey_found {keys : List ByteArray} {j i : Nat} {x : ByteArray} (hx : keys[j]? = some x) (hji : j < i) : hasKey (keys.take i) x = true := by
  rw [hasKey_iff]
  exact List.mem_of_getElem? (i := j) (by rw [List.getElem?_take, if_pos hji, hx])
/-- On the way through a value's items. -/
def Rk6 (w : World) (k : Int) (t : ByteArray) (u z : Int) (vl vk : Value) (n : Nat) (F : Nat → Flt) (g : Nat) (v : Value) (wr : World) : Prop :=
  ∃ i : Nat, i ≤ n ∧ g = n - i ∧ v = .int .i64 i ∧ F i = F 0 ∧ SixR wr w.heap.size (.int .i64 k) (.string t) (.int .u64 u) vl vk (.int .i64 z) ∧ Below w.heap.size w wr
/-- On the way through the keys ahead. -/
def Rj6 (wo : World) (b : Nat) (c0 c1 c2 c3 c4 c5 : Value) (keys : List ByteArray) (y : ByteArray) (n : Nat) (g : Nat) (v : Value) (wr : World) : Prop :=
  ∃ j : Nat, j ≤ n ∧ g = n - j ∧ v = .int .i64 j ∧ hasKey (keys.take j) y = false ∧ SixR wr b c0 c1 c2 c3 c4 c5 ∧ Below wo.heap.size wo wr
theorem RP6.own {c a : Int} {y : ByteArray} {ws : List ByteArray} {w w' : World} {v : Value} (h : w'.ownsRow 0 9 1 v (1 + ws.length) ([.string y] ++ ws.map Value.string)) (hb : Below w.heap.size w w') : RP6 (c, a, y :: ws) w (.returned (.tuple #[.int .i64 c, v])) w' := by
  have hr : RowIn (fun _ => True) w' v (1 + ws.length) ([.string y] ++ ws.map Value.string) := RowIn.of_own' h (fun _ _ => trivial)
  rw [Nat.add_comm] at hr
  obtain ⟨aa, cc, rfl⟩ := hr.form
  exact ⟨aa, cc, rfl, hr, hb⟩
theorem RP6.one {c a : Int} {y : ByteArray} {w W : World} (hb : Below w.heap.size w W) : RP6 (c, a, [y]) w (.returned (.tuple #[.int .i64 c, .slice (some ⟨W.heap.size, 0, none⟩) 1 1])) (W.alloc (.cells #[.string y] 9)) :=
  ⟨_, _, rfl, one_row W y, hb.trans ((sbelow_new W _).mono hb.size)⟩
theorem below_grown1 {w W W' : World} (o : Obj) (hb : Below w.heap.size w W) (hg : (W.alloc o).grownBy W' (some W.heap.size)) : Below w.heap.size w W' :=
  (hb.trans ((sbelow_new W o).mono hb.size)).trans ⟨hg.os, hg.tape, hg.output, hg.size, fun q hq => hg.block q (Nat.lt_of_lt_of_le hq ((hb.trans ((sbelow_new W o).mono hb.size)).size)) (fun e => by injection e with e; have := hb.size; omega)⟩
mutual
theorem chkV_len : ∀ (x : Val) (d : Int), d ≤ 64 → ((chkV d x).2.2.length : Int) ≤ 64 - d
  | .mk k t n list keys z, d, h => by
    rw [chkV]
    split
    · simp; omega
    · rename_i hf
      have h64 : (k = 5 ∨ k = 6) → d ≤ 63 := fun hk => by
        by_cases hd : 64 ≤ d
        · exfalso; apply hf; unfold flawI; rw [if_pos ⟨hk, hd⟩]; decide
        · omega
      split
      · have := chkA_len list (d + 1) 0 (by have := h64 (by omega); omega); omega
      · split
        · have := chkO_len list (d + 1) keys [] (by have := h64 (by omega); omega); omega
        · simp; omega
theorem chkA_len : ∀ (l : List Val) (d : Int) (i : Nat), d ≤ 64 → ((chkA d l i).2.2.length : Int) ≤ 65 - d
  | [], d, i, h => by rw [chkA]; simp; omega
  | x :: r, d, i, h => by
    rw [chkA]
    split
    · exact chkA_len r d (i + 1) h
    · rename_i hz
      have := chkV_len x d h
      rw [inF_no hz]; simp; omega
theorem chkO_len : ∀ (l : List Val) (d : Int) (ks seen : List ByteArray), d ≤ 64 → ((chkO d l ks seen).2.2.length : Int) ≤ 65 - d
  | [], d, ks, seen, h => by rw [chkO]; simp; omega
  | x :: r, d, [], seen, h => by rw [chkO]; simp; omega
  | x :: r, d, y :: ks, seen, h => by
    rw [chkO]
    split
    · rename_i hz
      rw [inF_no hz]
      unfold keyF
      split
      · simp; omega
      · split <;> simp <;> omega
    · split
      · exact chkO_len r d ks (seen ++ [y]) h
      · rename_i hz
        have := chkV_len x d h
        rw [inF_no hz]; simp; omega
end
set_option maxRecDepth 100000 in
set_option maxHeartbeats 16000000 in
theorem r6check_go (P : Nat → Prop) : ∀ (m : Nat) (x : Val), SizeOf.sizeOf x < m → okI x → okT x → ∀ (d : Int), 0 ≤ d → d ≤ 64 → ∀ (w : World) (k : Int) (t : ByteArray) (u : Int) (a : Option Addr) (l c : Nat) (a' : Option Addr) (l' c' : Nat) (z : Int),
    ValC P w [.int .i64 k, .string t, .int .u64 u, .slice a l c, .slice a' l' c', .int .i64 z] x →
    Calls Tryz.prog 20 #[.agg #[.int .i64 k, .string t, .int .u64 u, .slice a l c, .slice a' l' c', .int .i64 z], .int .i64 d] w (RP6 (chkV d x) w) := by
  intro m
  induction m with
  | zero => intro x hx; exact absurd hx (Nat.not_lt_zero _)
  | succ m ih =>
    intro x hx hok hot d hd0 hd1 w k t u a l c a' l' c' z hv
    cases x with
    | mk k1 t1 n1 list keys z1 =>
      rw [okI] at hok
      rw [okT] at hot
      unfold ValC at hv
      obtain ⟨sl, sk', xs, e, hk, hl, hvs⟩ := hv
      simp only [List.cons.injEq, Value.int.injEq, Value.string.injEq, true_and, and_true] at e
      obtain ⟨rfl, rfl, rfl, rfl, rfl, rfl⟩ := e
      obtain ⟨_, _, es⟩ := hl.form
      simp only [Value.slice.injEq] at es
      obtain ⟨-, el, -⟩ := es
      subst el
      obtain ⟨_, _, es⟩ := hk.form
      simp only [Value.slice.injEq] at es
      obtain ⟨-, el, -⟩ := es
      subst el
      simp only [Val.mk.sizeOf_spec] at hx
      have HB0 := Lib.hid (sbelow_new w (.cells #[.int .i64 k, .string t, .int .u64 u, .slice a list.length c, .slice a' keys.length c', .int .i64 z] 34))
      have H60 : Hid (SixR (w.alloc (.cells #[.int .i64 k, .string t, .int .u64 u, .slice a list.length c, .slice a' keys.length c', .int .i64 z] 34)) w.heap.size (.int .i64 k) (.string t) (.int .u64 u) (.slice a list.length c) (.slice a' keys.length c') (.int .i64 z)) := Lib.hid (heap_alloc_new w _)
      obtain ⟨s0, s1, s2, s3, s4, s5⟩ := H60.out.cells
      have HPl := Lib.hid (fun W => rplain_any t hot.1 W)
      rw [chkV]
      have HROW := Lib.hid hl
      have HVS := Lib.hid hvs
      have HKS := Lib.hid hk
      have HLL := Lib.hid hok.1
      have HKY := Lib.hid hot.2.1
      have HKL := Lib.hid hok.2.1
      have IH := Lib.hid (fun (hd : d ≤ 63) (i : Nat) (y : Val) (hy : list[i]? = some y) => ih y (by have := sizeOf_mem hy; omega) (okIs_at hok.2.2 hy) (okTs_at hot.2.2 hy) (d + 1) (by omega) (by omega))
      clear hk hl hvs hok hot ih hx
      by_cases h56 : k = 5 ∨ k = 6
      · by_cases hd : 64 ≤ d
        · have e8 : flawI d k t u list.length keys.length = 8 := by unfold flawI; rw [if_pos ⟨h56, hd⟩]
          rw [e8, if_pos (by decide)]
          rcases h56 with rfl | rfl
          all_goals
            clear HROW HVS HKS HLL HKY HKL IH HPl e8
            go_enter Tryz.func20, Tryz.ntmps20
            go_wp2_with fail
            go_ret2
            exact RP6.nil HB0.out
        · have hd64 : ¬ (64 : Int) ≤ d := hd
          have HD : Hid (d ≤ 63) := Lib.hid (by omega)
          have HLn := Lib.hid (fun y => chkV_len y (d + 1) (by omega))
          rcases h56 with rfl | rfl
          · have e0 : flawI d 5 t u list.length keys.length = 0 := by unfold flawI; rw [if_neg (fun h => hd h.2), if_neg (by omega), if_neg (by omega), if_neg (by omega), if_neg (by omega)]
            rw [e0, if_neg (by decide), if_pos rfl]
            clear HPl e0 hd HKY HKL HKS
            go_enter Tryz.func20, Tryz.ntmps20
            go_wp2_with fail
            clear s0 s1 s2 s3 s4 s5
            go_loopg [67] list.length (fun g v wr => Rk6 w 5 t u z (.slice a list.length c) (.slice a' keys.length c') list.length (fun i => chkA (d + 1) (list.drop i) i) g v wr)
            case atStart => exact ⟨0, Nat.zero_le _, by omega, rfl, rfl, H60.out, HB0.out⟩
            case round =>
              clear HB0 H60
              obtain ⟨i, hi, hgi, rfl, hF, h6, hb⟩ := hrel
              have H6 := Lib.hid h6
              by_cases hlt : i < list.length
              · obtain ⟨y, hy⟩ : ∃ e, list[i]? = some e := ⟨_, List.getElem?_eq_getElem hlt⟩
                obtain ⟨b1, o1, k6, t6, u6, a6, l6, c6, a7, l7, c7, z7, rfl, hvx, hE1⟩ := el_at HROW.out HVS.out hy hb
                have hbn := sbelow_new wr (.cells #[.int .i64 k6, .string t6, .int .u64 u6, .slice a6 l6 c6, .slice a7 l7 c7, .int .i64 z7] 34)
                have hS5 : Hid (SixR (wr.alloc (.cells #[.int .i64 k6, .string t6, .int .u64 u6, .slice a6 l6 c6, .slice a7 l7 c7, .int .i64 z7] 34)) wr.heap.size (.int .i64 k6) (.string t6) (.int .u64 u6) (.slice a6 l6 c6) (.slice a7 l7 c7) (.int .i64 z7)) := Lib.hid (heap_alloc_new _ _)
                have HB1 := Lib.hid (hb.trans (hbn.mono hb.size))
                have H61 := Lib.hid (h6.step hbn)
                have HC := Lib.hid (fun W (hW : Below w.heap.size w W) => IH.out HD.out i y hy W _ _ _ _ _ _ _ _ _ _ (hvx.step hW))
                have HI : Hid (i ≤ 100000) := Lib.hid (by have := HLL.out; omega)
                obtain ⟨-, g0, g1, g2, g3, g4, g5⟩ := hE1
                have hll := HLL.out
                have hup : chkA (d + 1) (list.drop i) i = chkA (d + 1) (list.drop 0) 0 := hF
                rw [drop_atl hy, chkA] at hup
                have HUP := Lib.hid hup
                clear hvx hy hb h6 hbn hF hup
                go_wp2_with fail
                refine (rdig_at i (by have := HI.out; omega) _).mono ?_
                rintro e w2 ⟨rfl, b2⟩
                have HB2 := Lib.hid (HB1.out.trans (b2.mono HB1.out.size))
                have H62 := Lib.hid (H61.out.step b2)
                have H52 := Lib.hid (hS5.out.step b2)
                clear b2 g0 g1 g2 g3 g4 g5
                obtain ⟨s0, s1, s2, s3, s4, s5⟩ := H62.out.cells
                obtain ⟨r0, r1, r2, r3, r4, r5⟩ := H52.out.cells
                go_wp2_with fail
                refine (HC.out _ HB2.out).mono ?_
                rintro e w3 ⟨a3, c3, rfl, hrow, b3⟩
                have HB3 := Lib.hid (HB2.out.trans (b3.mono HB2.out.size))
                have H63 := Lib.hid (H62.out.step b3)
                have HRW := Lib.hid hrow
                clear b3 s0 s1 s2 s3 s4 s5 r0 r1 r2 r3 r4 r5 hrow
                by_cases hc0 : (chkV (d + 1) y).1 = 0
                · have HN : Hid (Rk6 w 5 t u z (.slice (some ⟨b1, o1, none⟩) list.length c) (.slice a' keys.length c') list.length (fun i => chkA (d + 1) (list.drop i) i) (list.length - (i + 1)) (.int .i64 ((i + 1 : Nat) : Int)) w3) :=
                    Lib.hid ⟨i + 1, by omega, rfl, rfl, by show chkA (d + 1) (list.drop (i + 1)) (i + 1) = chkA (d + 1) (list.drop 0) 0; rw [← HUP.out, if_pos hc0], H63.out, HB3.out⟩
                  go_wp2_with fail
                  go_roundg (list.length - (i + 1))
                  case measure => omega
                  case rel => exact HN.out
                · have HE : Hid (chkA (d + 1) list 0 = inF (digN i) (chkV (d + 1) y)) := Lib.hid (by have := HUP.out; rw [if_neg hc0, List.drop_zero] at this; exact this.symm)
                  have HE := Lib.hid (HE.out.trans (inF_no hc0))
                  have hG3 : Hid ((chkV (d + 1) y).2.2.length ≤ 64) := Lib.hid (by have := HLn.out y; omega)
                  have hne : ((chkV (d + 1) y).1 != 0) = true := by simpa using hc0
                  have hne2 : ((chkV (d + 1) y).1 == 0) = false := by simpa using hc0
                  clear hc0
                  generalize chkV (d + 1) y = G at *
                  obtain ⟨G1, G2, G3⟩ := G
                  clear HUP
                  replace hne : (G1 != 0) = true := hne
                  replace hne2 : (G1 == 0) = false := hne2
                  have HBo := Lib.hid (own_one w3 (digN i))
                  have HRo := Lib.hid (HRW.out.sb (sbelow_new w3 (.cells #[.string (digN i)] 9)))
                  clear HRW
                  go_wp2_with (at_builtin; refine wpList_append_keys (P := fun _ => True) _ rfl _ _ rfl 0 (.slice (some ⟨w3.heap.size, 0, none⟩) 1 1) 1 [.string (digN i)] rfl HBo.out _ G3 rfl HRo.out ?bound ?base ?main)
                  case bound => have := hG3.out; show 1 + G3.length ≤ 10000000; have h2 : G3.length ≤ 64 := this; omega
                  case base => exact Nat.zero_le _
                  intro vK wK hownK hgrowK
                  have HBK := Lib.hid (below_grown1 _ HB3.out hgrowK)
                  have HOK := Lib.hid hownK
                  clear hownK hgrowK
                  go_wp2_with fail
                  go_ret2
                  rw [HE.out]
                  exact RP6.own HOK.out HBK.out
              · obtain rfl : i = list.length := by omega
                have hF' : chkA (d + 1) (list.drop list.length) list.length = chkA (d + 1) (list.drop 0) 0 := hF
                rw [List.drop_length, chkA, List.drop_zero] at hF'
                have HB := Lib.hid hb
                have HF := Lib.hid hF'
                clear hb hF hF' h6
                go_wp2_with fail
                go_ret2
                rw [← HF.out]
                exact RP6.nil HB.out
          · by_cases hkl : keys.length = list.length
            · have e0 : flawI d 6 t u list.length keys.length = 0 := by unfold flawI; rw [if_neg (fun h => hd h.2), if_neg (by omega), if_neg (by omega), if_neg (by omega), if_neg (fun h => h.2 hkl)]
              rw [e0, if_neg (by decide), if_neg (by decide), if_pos rfl]
              have hlb : ((keys.length : Int) != (list.length : Int)) = false := by rw [hkl]; simp
              have hlb2 : ((keys.length : Int) == (list.length : Int)) = true := by rw [hkl]; simp
              have HKLL := Lib.hid hkl
              clear HPl e0 hd hkl
              go_enter Tryz.func20, Tryz.ntmps20
              go_wp2_with fail
              clear s0 s1 s2 s3 s4 s5 hlb hlb2
              go_loopg [67] list.length (fun g v wr => Rk6 w 6 t u z (.slice a list.length c) (.slice a' keys.length c') list.length (fun i => chkO (d + 1) (list.drop i) (keys.drop i) (keys.take i)) g v wr)
              case atStart => exact ⟨0, Nat.zero_le _, by omega, rfl, rfl, H60.out, HB0.out⟩
              case round =>
                clear HB0 H60
                obtain ⟨i, hi, hgi, rfl, hF, h6, hb⟩ := hrel
                have H6 := Lib.hid h6
                by_cases hlt : i < list.length
                · obtain ⟨y, hy⟩ : ∃ e, list[i]? = some e := ⟨_, List.getElem?_eq_getElem hlt⟩
                  obtain ⟨ky, hky⟩ : ∃ e, keys[i]? = some e := ⟨_, List.getElem?_eq_getElem (by have := HKLL.out; omega)⟩
                  have HKYi := Lib.hid hky
                  obtain ⟨kb, ko, rfl, -⟩ := key_at HKS.out hky hb
                  obtain ⟨b1, o1, k6, t6, u6, a6, l6, c6, a7, l7, c7, z7, rfl, hvx, hE1⟩ := el_at HROW.out HVS.out hy hb
                  have hbn := sbelow_new wr (.cells #[.int .i64 k6, .string t6, .int .u64 u6, .slice a6 l6 c6, .slice a7 l7 c7, .int .i64 z7] 34)
                  have hS5 : Hid (SixR (wr.alloc (.cells #[.int .i64 k6, .string t6, .int .u64 u6, .slice a6 l6 c6, .slice a7 l7 c7, .int .i64 z7] 34)) wr.heap.size (.int .i64 k6) (.string t6) (.int .u64 u6) (.slice a6 l6 c6) (.slice a7 l7 c7) (.int .i64 z7)) := Lib.hid (heap_alloc_new _ _)
                  have HB1 := Lib.hid (hb.trans (hbn.mono hb.size))
                  have H61 := Lib.hid (h6.step hbn)
                  have HC := Lib.hid (fun W (hW : Below w.heap.size w W) => IH.out HD.out i y hy W _ _ _ _ _ _ _ _ _ _ (hvx.step hW))
                  have HI : Hid (i ≤ 100000) := Lib.hid (by have := HLL.out; omega)
                  obtain ⟨-, g0, g1, g2, g3, g4, g5⟩ := hE1
                  have hll := HLL.out
                  have HQ := Lib.hid (fun W => rplain_any ky (HKY.out ky (List.mem_of_getElem? hky)) W)
                  have hup : chkO (d + 1) (list.drop i) (keys.drop i) (keys.take i) = chkO (d + 1) (list.drop 0) (keys.drop 0) (keys.take 0) := hF
                  rw [drop_atl hy, drop_atl hky, chkO, List.drop_zero, List.drop_zero, List.take_zero] at hup
                  have htk : keys.take i ++ [ky] = keys.take (i + 1) := by rw [List.take_add_one, hky]; rfl
                  rw [htk] at hup
                  have HUP := Lib.hid hup
                  have HKC := Lib.hid (fun W (hW : Below w.heap.size w W) => key_at6 HKS.out hky hW)
                  clear hvx hy hb h6 hbn hF hup hky htk
                  go_wp2_with fail
                  refine (rdig_at i (by have := HI.out; omega) _).mono ?_
                  rintro e w2 ⟨rfl, b2⟩
                  have HB2 := Lib.hid (HB1.out.trans (b2.mono HB1.out.size))
                  have H62 := Lib.hid (H61.out.step b2)
                  have H52 := Lib.hid (hS5.out.step b2)
                  have kc := HKC.out _ HB2.out
                  have hik : i < keys.length := by have := HKLL.out; omega
                  have hkl2 := HKL.out
                  clear b2 g0 g1 g2 g3 g4 g5
                  obtain ⟨s0, s1, s2, s3, s4, s5⟩ := H62.out.cells
                  have HKF : Hid (keyF (keys.take i) ky = if ky.data.toList.all mayS = false then (4, 0, []) else if hasKey (keys.take i) ky = true then (10, 0, []) else (0, 0, [])) := Lib.hid rfl
                  generalize ky.data.toList.all mayS = mb at *
                  cases mb with
                  | false =>
                    have HE : Hid (chkO (d + 1) list keys [] = (4, 0, [ky])) := Lib.hid (by have := HUP.out; rw [HKF.out, if_pos rfl, if_pos (by decide), inF_no (by decide)] at this; exact this.symm)
                    go_wp2_with fail
                    refine (HQ.out _).mono ?_
                    rintro e w3 ⟨rfl, rfl⟩
                    go_wp2_with fail
                    go_ret2
                    rw [HE.out]
                    exact RP6.one HB2.out
                  | true =>
                    rw [if_neg (by decide)] at HKF
                    go_wp2_with fail
                    refine (HQ.out _).mono ?_
                    rintro e w3 ⟨rfl, rfl⟩
                    go_wp2_with fail
                    clear s0 s1 s2 s3 s4 s5 kc
                    go_loopg [9] i (fun g v wr => Rj6 w3 w.heap.size (.int .i64 6) (.string t) (.int .u64 u) (.slice (some ⟨b1, o1, none⟩) list.length c) (.slice (some ⟨kb, ko, none⟩) keys.length c') (.int .i64 z) keys ky i g v wr)
                    case atStart => exact ⟨0, Nat.zero_le _, by omega, rfl, rfl, H62.out, Below.refl _ _⟩
                    case round =>
                      obtain ⟨j, hj, hgj, rfl, hno, h6j, hbj⟩ := hrel
                      have H6j := Lib.hid h6j
                      have HNO := Lib.hid hno
                      have HBj := Lib.hid (HB2.out.trans (hbj.mono HB2.out.size))
                      have H5j := Lib.hid (H52.out.step hbj)
                      have HBw := Lib.hid (hbj.trans ((Below.refl _ _ : Below _ _ _).mono hbj.size))
                      clear h6j hno hbj
                      by_cases hltj : j < i
                      · obtain ⟨kj, hkj⟩ : ∃ e, keys[j]? = some e := ⟨_, List.getElem?_eq_getElem (by omega)⟩
                        have kcj := key_at6 HKS.out hkj HBj.out
                        have hjk : j < keys.length := by omega
                        obtain ⟨s0, s1, s2, s3, s4, s5⟩ := H6j.out.cells
                        by_cases heq : kj = ky
                        · subst heq
                          have HHK := Lib.hid (hasKey_found hkj hltj)
                          have HE : Hid (chkO (d + 1) list keys [] = (10, 0, [kj])) := Lib.hid (by have := HUP.out; rw [HKF.out, if_pos HHK.out, if_pos (by decide), inF_no (by decide)] at this; exact this.symm)
                          clear hkj
                          go_wp2_with fail
                          go_ret2
                          rw [HE.out]
                          exact RP6.one HBj.out
                        · have hbe := bytes_ne heq
                          have HHS := Lib.hid (hasKey_step hkj HNO.out heq)
                          clear hkj heq
                          go_wp2_with fail
                          go_roundg (i - (j + 1))
                          case measure => omega
                          case rel => exact ⟨j + 1, by omega, rfl, by go_num, HHS.out, H6j.out, HBw.out⟩
                      · obtain rfl : j = i := by omega
                        have HUP2 : Hid ((if (chkV (d + 1) y).1 = 0 then chkO (d + 1) (list.drop (j + 1)) (keys.drop (j + 1)) (keys.take (j + 1)) else inF ky (chkV (d + 1) y)) = chkO (d + 1) list keys []) := Lib.hid (by
                          have := HUP.out
                          have n0 : ¬ (((0 : Int), (0 : Int), ([] : List ByteArray)).1 ≠ 0) := by decide
                          have n1 : ¬ (hasKey (keys.take j) ky = true) := by rw [HNO.out]; decide
                          rw [HKF.out, if_neg n1, if_neg n0] at this
                          exact this)
                        obtain ⟨r0, r1, r2, r3, r4, r5⟩ := H5j.out.cells
                        clear hltj
                        go_wp2_with fail
                        refine (HC.out _ HBj.out).mono ?_
                        rintro e w3 ⟨a3, c3, rfl, hrow, b3⟩
                        have HB3 := Lib.hid (HBj.out.trans (b3.mono HBj.out.size))
                        have H63 := Lib.hid (H6j.out.step b3)
                        have HRW := Lib.hid hrow
                        clear b3 r0 r1 r2 r3 r4 r5 hrow
                        by_cases hc0 : (chkV (d + 1) y).1 = 0
                        · have HN : Hid (Rk6 w 6 t u z (.slice (some ⟨b1, o1, none⟩) list.length c) (.slice (some ⟨kb, ko, none⟩) keys.length c') list.length (fun i => chkO (d + 1) (list.drop i) (keys.drop i) (keys.take i)) (list.length - (j + 1)) (.int .i64 ((j + 1 : Nat) : Int)) w3) :=
                            Lib.hid ⟨j + 1, by omega, rfl, rfl, by show chkO (d + 1) (list.drop (j + 1)) (keys.drop (j + 1)) (keys.take (j + 1)) = chkO (d + 1) (list.drop 0) (keys.drop 0) (keys.take 0); rw [List.drop_zero, List.drop_zero, List.take_zero, ← HUP2.out, if_pos hc0], H63.out, HB3.out⟩
                          go_wp2_with fail
                          go_roundg (list.length - (j + 1))
                          case measure => omega
                          case rel => exact HN.out
                        · have HE : Hid (chkO (d + 1) list keys [] = inF ky (chkV (d + 1) y)) := Lib.hid (by have := HUP2.out; rw [if_neg hc0] at this; exact this.symm)
                          have HE := Lib.hid (HE.out.trans (inF_no hc0))
                          have hG3 : Hid ((chkV (d + 1) y).2.2.length ≤ 64) := Lib.hid (by have := HLn.out y; omega)
                          have hne : ((chkV (d + 1) y).1 != 0) = true := by simpa using hc0
                          have hne2 : ((chkV (d + 1) y).1 == 0) = false := by simpa using hc0
                          clear hc0
                          generalize chkV (d + 1) y = G at *
                          obtain ⟨G1, G2, G3⟩ := G
                          clear HUP HUP2
                          replace hne : (G1 != 0) = true := hne
                          replace hne2 : (G1 == 0) = false := hne2
                          have HBo := Lib.hid (own_one w3 ky)
                          have HRo := Lib.hid (HRW.out.sb (sbelow_new w3 (.cells #[.string ky] 9)))
                          clear HRW
                          go_wp2_with (at_builtin; refine wpList_append_keys (P := fun _ => True) _ rfl _ _ rfl 0 (.slice (some ⟨w3.heap.size, 0, none⟩) 1 1) 1 [.string ky] rfl HBo.out _ G3 rfl HRo.out ?bound2 ?base2 ?main2)
                          case bound2 => have := hG3.out; show 1 + G3.length ≤ 10000000; have h2 : G3.length ≤ 64 := this; omega
                          case base2 => exact Nat.zero_le _
                          intro vK wK hownK hgrowK
                          have HBK := Lib.hid (below_grown1 _ HB3.out hgrowK)
                          have HOK := Lib.hid hownK
                          clear hownK hgrowK
                          go_wp2_with fail
                          go_ret2
                          rw [HE.out]
                          exact RP6.own HOK.out HBK.out
                · obtain rfl : i = list.length := by omega
                  have hF' : chkO (d + 1) (list.drop list.length) (keys.drop list.length) (keys.take list.length) = chkO (d + 1) (list.drop 0) (keys.drop 0) (keys.take 0) := hF
                  rw [List.drop_length, chkO, List.drop_zero, List.drop_zero, List.take_zero] at hF'
                  have HB := Lib.hid hb
                  have HF := Lib.hid hF'
                  clear hb hF hF' h6
                  go_wp2_with fail
                  go_ret2
                  rw [← HF.out]
                  exact RP6.nil HB.out
            · have e0 : flawI d 6 t u list.length keys.length = 12 := by unfold flawI; rw [if_neg (fun h => hd h.2), if_neg (by omega), if_neg (by omega), if_neg (by omega), if_pos ⟨rfl, hkl⟩]
              rw [e0, if_pos (by decide)]
              have hlb : ((keys.length : Int) != (list.length : Int)) = true := bne_iff_ne.2 (by omega)
              have hlb2 : ((keys.length : Int) == (list.length : Int)) = false := beq_eq_false_iff_ne.2 (by omega)
              clear HPl e0 hd hkl HROW HVS HKS HLL HKY HKL IH
              go_enter Tryz.func20, Tryz.ntmps20
              go_wp2_with fail
              go_ret2
              exact RP6.nil HB0.out
      · have h5 : ¬ k = 5 := fun h => h56 (.inl h)
        have h6 : ¬ k = 6 := fun h => h56 (.inr h)
        clear HROW HVS HKS HLL HKY HKL IH
        by_cases hr : k < 0 ∨ 6 < k
        · have e9 : flawI d k t u list.length keys.length = 9 := by unfold flawI; rw [if_neg (fun h => h56 h.1), if_pos hr]
          rw [e9, if_pos (by decide)]
          clear h56 e9
          rcases hr with hr | hr
          all_goals
            go_enter Tryz.func20, Tryz.ntmps20
            go_wp2_with fail
            go_ret2
            exact RP6.nil HB0.out
        · have hk04 : k = 0 ∨ k = 1 ∨ k = 2 ∨ k = 3 ∨ k = 4 := by omega
          have eF : flawI d k t u list.length keys.length = if k = 3 ∧ u ≠ capI u then 7 else if k = 4 ∧ t.data.toList.all mayS = false then 4 else 0 := by
            unfold flawI
            rw [if_neg (fun h => h56 h.1), if_neg hr]
            split
            · rfl
            · split
              · rfl
              · rw [if_neg (fun h => h6 h.1)]
          rw [eF, if_neg h5, if_neg h6]
          clear eF hr h56
          generalize t.data.toList.all mayS = mb at *
          rcases hk04 with rfl | rfl | rfl | rfl | rfl
          · simp only [show ¬ ((0 : Int) = 3) by decide, show ¬ ((0 : Int) = 4) by decide, false_and, if_false, ne_eq, not_true_eq_false]
            clear h5 h6 HPl
            go_enter Tryz.func20, Tryz.ntmps20
            go_wp2_with fail
            go_ret2
            exact RP6.nil HB0.out
          · simp only [show ¬ ((1 : Int) = 3) by decide, show ¬ ((1 : Int) = 4) by decide, false_and, if_false, ne_eq, not_true_eq_false]
            clear h5 h6 HPl
            go_enter Tryz.func20, Tryz.ntmps20
            go_wp2_with fail
            go_ret2
            exact RP6.nil HB0.out
          · simp only [show ¬ ((2 : Int) = 3) by decide, show ¬ ((2 : Int) = 4) by decide, false_and, if_false, ne_eq, not_true_eq_false]
            clear h5 h6 HPl
            go_enter Tryz.func20, Tryz.ntmps20
            go_wp2_with fail
            go_ret2
            exact RP6.nil HB0.out
          · by_cases hu : u ≤ 9223372036854775807
            · have hcu : u = capI u := by unfold capI most; rw [if_neg (by omega)]
              have n3 : ¬ ((3 : Int) = 3 ∧ u ≠ capI u) := fun h => h.2 hcu
              have n4 : ¬ ((3 : Int) = 4 ∧ mb = false) := fun h => absurd h.1 (by decide)
              rw [if_neg n3, if_neg n4, if_neg (by decide)]
              clear h5 h6 HPl hcu
              go_enter Tryz.func20, Tryz.ntmps20
              go_wp2_with fail
              go_ret2
              exact RP6.nil HB0.out
            · have hcu : u ≠ capI u := by unfold capI most; rw [if_pos (by omega)]; omega
              have hu2 : (9223372036854775807 : Int) < u := by omega
              have n3 : (3 : Int) = 3 ∧ u ≠ capI u := ⟨rfl, hcu⟩
              rw [if_pos n3, if_pos (by decide)]
              clear h5 h6 HPl hcu hu
              go_enter Tryz.func20, Tryz.ntmps20
              go_wp2_with fail
              go_ret2
              exact RP6.nil HB0.out
          · have n3 : ¬ ((4 : Int) = 3 ∧ u ≠ capI u) := fun h => absurd h.1 (by decide)
            rw [if_neg n3]
            clear h5 h6 n3
            cases mb with
            | false =>
              have n4 : (4 : Int) = 4 ∧ false = false := ⟨rfl, rfl⟩
              rw [if_pos n4, if_pos (by decide)]
              go_enter Tryz.func20, Tryz.ntmps20
              go_wp2_with fail
              refine (HPl.out _).mono ?_
              rintro e w3 ⟨rfl, rfl⟩
              go_wp2_with fail
              go_ret2
              exact RP6.nil HB0.out
            | true =>
              have n4 : ¬ ((4 : Int) = 4 ∧ true = false) := fun h => absurd h.2 (by decide)
              rw [if_neg n4, if_neg (by decide)]
              go_enter Tryz.func20, Tryz.ntmps20
              go_wp2_with fail
              refine (HPl.out _).mono ?_
              rintro e w3 ⟨rfl, rfl⟩
              go_wp2_with fail
              go_ret2
              exact RP6.nil HB0.out
end Go.Proofs.YtajmlkephefapaaGreatDoor

namespace Go.Proofs.YtajmlkephefapaaGreatDoor
open Go.RowKit Go.Extern.Stop Go.Stop Go.Extern

theorem wbelow_drewN (w : World) (n : Nat) : Below w.heap.size w (w.drewN n) := ⟨rfl, rfl, rfl, Nat.le_refl _, fun _ _ => rfl⟩
theorem strs_formW {w : World} {v : Value} {rs : List ByteArray} (h : StrsAt w v rs) : ∃ a cap, v = .slice a rs.length cap := by
  rcases h with ⟨a, cap, rfl, rfl⟩ | ⟨b, off, cap, rfl, -⟩
  · exact ⟨a, cap, rfl⟩
  · exact ⟨_, cap, rfl⟩
set_option maxHeartbeats 400000 in
theorem within_nil (a : Int) (sa : Option Addr) (n cp : Nat) (w : World) : Calls Tryz.prog 22 #[.nilIface, .int .i64 0, .int .i64 a, .slice sa n cp] w fun e w' => e = .returned (.bool true) ∧ w' = w := by
  go_enter Tryz.func22, Tryz.ntmps22
  go_wp2
  go_ret
  exact ⟨rfl, rfl⟩
set_option maxRecDepth 100000 in
set_option maxHeartbeats 2000000 in
theorem within_fault (b : Nat) (c a : Int) (hc : c ≠ 0) (ws : List ByteArray) (hl : ws.length ≤ 1000) (v vs : Value) (w : World) (hch : ChainAt w (.fault b c a) ws v) (hs : StrsAt w vs ws) (hg : Handle w) :
    Calls Tryz.prog 22 #[v, .int .i64 c, .int .i64 a, vs] w fun e w' => e = .returned (.bool true) ∧ Below w.heap.size w w' := by
  obtain ⟨T, V, rfl⟩ := hch.iface
  have hcb : (c == 0) = false := by simpa using hc
  have HEq := Lib.hid (fun v1 W (h1 : StrsAt W v1 ws) (h2 : StrsAt W vs ws) => equalS_any v1 vs ws ws W h1 h2 hl)
  have HS := Lib.hid hs
  obtain ⟨sa, sc, rfl⟩ := strs_formW hs
  clear hc hs
  go_enter Tryz.func22, Tryz.ntmps22
  go_wp2_with fail
  refine (code_some _ c rfl _ _ _ hch hg).mono ?_
  rintro e w1 ⟨rfl, b1⟩
  have c1 := Lib.hid (hch.keep b1)
  have HB1 := Lib.hid b1
  clear b1
  go_wp2_with fail
  refine (at_chain _ _ _ _ _ _ c1.out (hg.below HB1.out)).mono ?_
  rintro e w2 ⟨rfl, b2⟩
  have c2 := Lib.hid (c1.out.keep b2)
  have HB2 := Lib.hid (HB1.out.trans (b2.mono HB1.out.size))
  clear b2
  go_wp2_with fail
  refine (words_any _ _ _ _ c2.out (hg.below HB2.out) hl).mono ?_
  rintro e w3 ⟨sl, rfl, hown, b3⟩
  have hs3 := strs_own hown
  have HB3 := Lib.hid (HB2.out.trans (b3.mono HB2.out.size))
  have HS3 := Lib.hid hs3
  obtain ⟨xa, xc, rfl⟩ := strs_formW hs3
  clear hown hs3 b3
  go_wp2_with fail
  refine (HEq.out _ _ HS3.out (HS.out.keep HB3.out)).mono ?_
  rintro e w4 ⟨rfl, n, rfl⟩
  have ht : decide (ws = ws) = true := decide_eq_true rfl
  go_wp2_with fail
  go_ret
  exact ⟨by simp, HB3.out.trans ((wbelow_drewN w3 n).mono HB3.out.size)⟩
theorem within_any (F : Flt) (hl : F.2.2.length ≤ 1000) (e : Ending) (w0 w : World) (hp : FltPost F w0 e w) (vs : Value) (W : World) (hW : Below w.heap.size w W) (hs : StrsAt W vs F.2.2) (hg : Handle W) :
    ∃ v, e = .returned v ∧ Calls Tryz.prog 22 #[v, .int .i64 F.1, .int .i64 F.2.1, vs] W fun e w' => e = .returned (.bool true) ∧ Below W.heap.size W w' := by
  rcases hp.cases with ⟨rfl, hz, -⟩ | ⟨T, V, b, rfl, hz, -, hch, -⟩
  · obtain ⟨sa, sc, rfl⟩ := strs_formW hs
    refine ⟨_, rfl, ?_⟩
    rw [hz]
    exact (within_nil _ _ _ _ W).mono fun _ _ ⟨h, h'⟩ => ⟨h, by rw [h']; exact Below.refl _ _⟩
  · exact ⟨_, rfl, within_fault b _ _ hz _ hl _ vs W (hch.keep hW) hs hg⟩
end Go.Proofs.YtajmlkephefapaaGreatDoor

namespace Go.Proofs.YtajmlkephefapaaGreatDoor
open Go.RowKit Go.Extern.Stop Go.Stop Go.Extern Go.WideMaps

mutual
theorem chkV_at : ∀ (x : Val) (d : Int), (chkV d x).2.1 = 0
  | .mk k t n list keys z, d => by
    rw [chkV]
    split
    · rfl
    · split
      · exact chkA_at list (d + 1) 0
      · split
        · exact chkO_at list (d + 1) keys []
        · rfl
theorem chkA_at : ∀ (l : List Val) (d : Int) (i : Nat), (chkA d l i).2.1 = 0
  | [], d, i => by rw [chkA]
  | x :: r, d, i => by
    rw [chkA]
    split
    · exact chkA_at r d (i + 1)
    · rename_i hz
      rw [inF_no hz]
      exact chkV_at x d
theorem chkO_at : ∀ (l : List Val) (d : Int) (ks seen : List ByteArray), (chkO d l ks seen).2.1 = 0
  | [], d, ks, seen => by rw [chkO]
  | x :: r, d, [], seen => by rw [chkO]
  | x :: r, d, y :: ks, seen => by
    rw [chkO]
    split
    · rename_i hz
      rw [inF_no hz]
      unfold keyF
      split
      · rfl
      · split <;> rfl
    · split
      · exact chkO_at r d ks (seen ++ [y])
      · rename_i hz
        rw [inF_no hz]
        exact chkV_at x d
end
set_option maxRecDepth 100000 in
set_option maxHeartbeats 8000000 in
theorem inkWrites_any (x : Val) (k : Int) (t : ByteArray) (u : Int) (a : Option Addr) (l c : Nat) (a' : Option Addr) (l' c' : Nat) (z : Int) (w : World) (hv : ValC (fun _ => True) w [.int .i64 k, .string t, .int .u64 u, .slice a l c, .slice a' l' c', .int .i64 z] x) (hon : okN x) (hg : Handle w) (hT : Tab w) :
    Calls Tryz.prog 4 #[.agg #[.int .i64 k, .string t, .int .u64 u, .slice a l c, .slice a' l' c', .int .i64 z]] w fun e w' => e = .returned (.bool true) ∧ Below w.heap.size w w' := by
  have HG := Lib.hid hg
  have HTb := Lib.hid hT
  have HV := Lib.hid hv
  have HON := Lib.hid hon
  have HB0 := Lib.hid (sbelow_new w (.cells #[.int .i64 k, .string t, .int .u64 u, .slice a l c, .slice a' l' c', .int .i64 z] 27))
  have H60 : Hid (SixAt (w.alloc (.cells #[.int .i64 k, .string t, .int .u64 u, .slice a l c, .slice a' l' c', .int .i64 z] 27)) w.heap.size (.int .i64 k) (.string t) (.int .u64 u) (.slice a l c) (.slice a' l' c') (.int .i64 z)) := Lib.hid (heap_alloc_new w _)
  clear hv hon hg hT
  go_enter Tryz.func4, Tryz.ntmps4
  go_wp2_with fail
  refine (awake6_any _ (HG.out.below HB0.out) (HTb.out.below HB0.out)).mono ?_
  rintro e w1 ⟨rfl, b1⟩
  have HB1 := Lib.hid (HB0.out.trans (b1.mono HB0.out.size))
  have H61 := Lib.hid (H60.out.step b1)
  clear b1
  obtain ⟨s0, s1, s2, s3, s4, s5⟩ := H61.out.cells
  go_wp2_with fail
  refine (left5_go (fun _ => True) _ x (Nat.lt_succ_self _) 400 (by decide) (by decide) w1 k t u a l c a' l' c' z (HV.out.step HB1.out)).mono ?_
  rintro e w2 ⟨rfl, b2⟩
  have HB2 := Lib.hid (HB1.out.trans (b2.mono HB1.out.size))
  have H62 := Lib.hid (H61.out.step b2)
  clear b2 s0 s1 s2 s3 s4 s5
  by_cases hneg : lf5 x 400 < 0
  · go_wp2_with fail
    go_ret
    exact ⟨rfl, HB2.out⟩
  have hfit := fit_of x 400 (by decide) (by decide) (by omega)
  have hfl := hfit.len
  have HFit := Lib.hid hfit
  have HLen : Hid ((inkV x).length ≤ 60000) := Lib.hid (by omega)
  clear hfit hfl
  obtain ⟨s0, s1, s2, s3, s4, s5⟩ := H62.out.cells
  go_wp2_with fail
  refine (to5_go (fun _ => True) _ x (Nat.lt_succ_self _) HFit.out.ok w2 k t u a l c a' l' c' z (HV.out.step HB2.out)).mono ?_
  rintro e w3 ⟨qa, ql, qc, qa', ql', qc', rfl, hq, b3⟩
  have bn := sbelow_new w3 (.cells #[.int .i64 k, .string t, .int .u64 u, .slice qa ql qc, .slice qa' ql' qc', .int .i64 z] 34)
  have HB4 := Lib.hid ((HB2.out.trans (b3.mono HB2.out.size)).trans (bn.mono (HB2.out.trans (b3.mono HB2.out.size)).size))
  have H64 := Lib.hid ((H62.out.step b3).step bn)
  have HQ4 := Lib.hid (hq.step bn)
  have HR4 : Hid (SixR (w3.alloc (.cells #[.int .i64 k, .string t, .int .u64 u, .slice qa ql qc, .slice qa' ql' qc', .int .i64 z] 34)) w3.heap.size (.int .i64 k) (.string t) (.int .u64 u) (.slice qa ql qc) (.slice qa' ql' qc') (.int .i64 z)) := Lib.hid (heap_alloc_new w3 _)
  clear hneg s0 s1 s2 s3 s4 s5 b3 bn hq
  obtain ⟨r0, r1, r2, r3, r4, r5⟩ := HR4.out.cells
  go_wp2_with fail
  refine (r6check_go _ _ x (Nat.lt_succ_self _) HFit.out.ok HFit.out.tx 0 (by decide) (by decide) _ k t u qa ql qc qa' ql' qc' z HQ4.out).mono ?_
  rintro e w5 ⟨fa, fc, rfl, hrow, b5⟩
  have HB5 := Lib.hid (HB4.out.trans (b5.mono HB4.out.size))
  have H65 := Lib.hid (H64.out.step b5)
  have HQ5 := Lib.hid (HQ4.out.step b5)
  have HR5 := Lib.hid (HR4.out.step b5)
  have HW5 := Lib.hid (RowIn.strs hrow)
  have HAt := Lib.hid (chkV_at x 0)
  have HLn : Hid ((chkV 0 x).2.2.length ≤ 1000) := Lib.hid (by have := chkV_len x 0 (by decide); omega)
  clear r0 r1 r2 r3 r4 r5 b5 hrow
  obtain ⟨s0, s1, s2, s3, s4, s5⟩ := H65.out.cells
  go_wp2_with fail
  refine (iText_any (fun _ => True) x HFit.out.ok HFit.out.tx HON.out (by have := HLen.out; omega) w5 k t u a l c a' l' c' z (HTb.out.below HB5.out) (HV.out.step HB5.out)).mono ?_
  rintro e w6 ⟨st, ev, rfl, hz0, hz1, b6⟩
  have HFP : Hid (FltPost (chkV 0 x) w5 (.returned ev) w6) := Lib.hid ⟨ev, rfl, fun h => (hz0 h).2, fun h => (hz1 h).2, b6⟩
  have HST : Hid (st = if (chkV 0 x).1 = 0 then ⟨(inkV x).toArray⟩ else ⟨#[]⟩) := Lib.hid (by
    by_cases h : (chkV 0 x).1 = 0
    · rw [if_pos h]; exact (hz0 h).1
    · rw [if_neg h]; exact (hz1 h).1)
  have HB6 := Lib.hid (HB5.out.trans (b6.mono HB5.out.size))
  have H66 := Lib.hid (H65.out.step b6)
  have HQ6 := Lib.hid (HQ5.out.step b6)
  have HR6 := Lib.hid (HR5.out.step b6)
  have HW6 := Lib.hid (HW5.out.keep b6)
  clear s0 s1 s2 s3 s4 s5 b6 hz0 hz1
  obtain ⟨s0, s1, s2, s3, s4, s5⟩ := H66.out.cells
  have HEv : Hid (ev = .nilIface ∨ ∃ T V, ev = .iface T V) := Lib.hid (by
    rcases HFP.out.cases with ⟨h, -⟩ | ⟨T, V, b, h, -⟩
    · injection h with h; exact .inl h
    · injection h with h; exact .inr ⟨T, V, h⟩)
  go_wp2_with fail
  refine (iCheck_any (fun u W h0 ht => adigits_any u h0 W ht) (fun _ => True) x HFit.out.ok HFit.out.tx w6 k t u a l c a' l' c' z (HTb.out.below HB6.out) (HV.out.step HB6.out)).mono ?_
  intro e w7 hp
  have b7 : Below w6.heap.size w6 w7 := by
    rcases hp.cases with ⟨-, -, h⟩ | ⟨T, V, b, -, -, -, -, h⟩ <;> exact h
  have HB7 := Lib.hid (HB6.out.trans (b7.mono HB6.out.size))
  have HQ7 := Lib.hid (HQ6.out.step b7)
  have HR7 := Lib.hid (HR6.out.step b7)
  have HW7 := Lib.hid (HW6.out.keep b7)
  have HG7 := Lib.hid (HG.out.below HB7.out)
  obtain ⟨cv, rfl, hwi⟩ := within_any (chkV 0 x) HLn.out e w6 w7 hp _ w7 (Below.refl _ _) HW7.out HG7.out
  rw [HAt.out] at hwi
  have HWI := Lib.hid hwi
  have HW2 := Lib.hid (fun W (hW : Below w7.heap.size w7 W) => within_any (chkV 0 x) HLn.out (.returned ev) w5 w6 HFP.out _ W (b7.trans (hW.mono b7.size)) (HW7.out.keep hW) (HG7.out.below hW))
  clear hwi hp b7 s0 s1 s2 s3 s4 s5
  have HTx := Lib.hid (fun (hc : (chkV 0 x).1 = 0) W hv => r6text_go (fun q => w2.heap.size ≤ q) _ x (Nat.lt_succ_self _) 0 hc HFit.out.ok HFit.out.tx HON.out (by have := HLen.out; omega) W k t u qa ql qc qa' ql' qc' z hv)
  go_wp2_with fail
  refine HWI.out.mono ?_
  rintro e w8 ⟨rfl, b8⟩
  obtain ⟨cv2, e2, hw2⟩ := HW2.out w8 b8
  injection e2 with e2
  subst e2
  rw [HAt.out] at hw2
  have HWJ := Lib.hid hw2
  have HB8 := Lib.hid (HB7.out.trans (b8.mono HB7.out.size))
  have HQ8 := Lib.hid (HQ7.out.step b8)
  have HR8 := Lib.hid (HR7.out.step b8)
  clear hw2 b8
  go_wp2_with fail
  refine HWJ.out.mono ?_
  rintro e w9 ⟨rfl, b9⟩
  have HB9 := Lib.hid (HB8.out.trans (b9.mono HB8.out.size))
  have HQ9 := Lib.hid (HQ8.out.step b9)
  have HR9 := Lib.hid (HR8.out.step b9)
  clear b9
  by_cases hc : (chkV 0 x).1 = 0
  · have es := HST.out
    rw [if_pos hc] at es
    subst es
    have HT1 := Lib.hid (HTx.out hc _ HQ9.out)
    have hcb : ((chkV 0 x).1 != 0) = false := by simpa using hc
    have hcb2 : ((chkV 0 x).1 == 0) = true := by simpa using hc
    clear hc HTx HST HWI HWJ HW2 HFP HAt HLn
    generalize (⟨(inkV x).toArray⟩ : ByteArray) = tx at *
    generalize (chkV 0 x).1 = F1 at *
    obtain ⟨r0, r1, r2, r3, r4, r5⟩ := HR9.out.cells
    go_wp2_with fail
    refine HT1.out.mono ?_
    rintro e w10 ⟨rfl, b10⟩
    have HB10 := Lib.hid (HB9.out.trans (b10.mono HB9.out.size))
    clear b10 r0 r1 r2 r3 r4 r5
    go_wp2_with fail
    go_ret
    exact ⟨by simp, HB10.out⟩
  · have es := HST.out
    rw [if_neg hc] at es
    subst es
    have hcb : ((chkV 0 x).1 != 0) = true := by simpa using hc
    have hcb2 : ((chkV 0 x).1 == 0) = false := by simpa using hc
    clear hc HTx HST HWI HWJ HW2 HFP HAt HLn
    generalize (chkV 0 x).1 = F1 at *
    go_wp2_with fail
    go_ret
    exact ⟨by rfl, HB9.out⟩
end Go.Proofs.YtajmlkephefapaaGreatDoor

namespace Go.Proofs.YtajmlkephefapaaGreatDoor
open Go.ChangeShapes Go.WideShapes Go.ChangeAt Go.RowKit Go.Deep

theorem Tryz.cellsVVal : Tryz.prog.cellsOf 27 = 6 := by kernel_rfl
theorem Tryz.cellsVVals : Tryz.prog.cellsOf 24 = 1 := by kernel_rfl
theorem Tryz.cellsVStr : Tryz.prog.cellsOf 9 = 1 := by kernel_rfl
theorem Tryz.cellsVStrs : Tryz.prog.cellsOf 25 = 1 := by kernel_rfl
theorem Tryz.cellsVInt : Tryz.prog.cellsOf 3 = 1 := by kernel_rfl
theorem Tryz.cellsVU64 : Tryz.prog.cellsOf 23 = 1 := by kernel_rfl

theorem valsC_of {P : Nat → Prop} {W : World} {b : Nat} : ∀ (kids : List Val) (o : Nat), (∀ i x, kids[i]? = some x → ∃ c0 c1 c2 c3 c4 c5, ValC P W [c0, c1, c2, c3, c4, c5] x ∧ W.cell? ⟨b, o + i * 6, none⟩ = some c0 ∧ W.cell? ⟨b, o + i * 6 + 1, none⟩ = some c1 ∧ W.cell? ⟨b, o + i * 6 + 2, none⟩ = some c2 ∧ W.cell? ⟨b, o + i * 6 + 3, none⟩ = some c3 ∧ W.cell? ⟨b, o + i * 6 + 4, none⟩ = some c4 ∧ W.cell? ⟨b, o + i * 6 + 5, none⟩ = some c5) →
    ∃ xs, ValsC P W xs kids ∧ ∀ j u, xs[j]? = some u → W.cell? ⟨b, o + j, none⟩ = some u
  | [], o, _ => ⟨[], ValsC.nil, fun j u h => by simp at h⟩
  | x :: r, o, h => by
    obtain ⟨c0, c1, c2, c3, c4, c5, hx, h0, h1, h2, h3, h4, h5⟩ := h 0 x rfl
    obtain ⟨xs, hr, hc⟩ := valsC_of r (o + 6) (fun i y hy => by
      obtain ⟨d0, d1, d2, d3, d4, d5, hy', k0, k1, k2, k3, k4, k5⟩ := h (i + 1) y (by simpa using hy)
      rw [show o + (i + 1) * 6 = o + 6 + i * 6 by omega] at k0 k1 k2 k3 k4 k5
      exact ⟨d0, d1, d2, d3, d4, d5, hy', k0, k1, k2, k3, k4, k5⟩)
    refine ⟨[c0, c1, c2, c3, c4, c5] ++ xs, by unfold ValsC; exact ⟨_, _, rfl, hx, hr⟩, fun j u hj => ?_⟩
    simp only [Nat.zero_mul, Nat.add_zero] at h0 h1 h2 h3 h4 h5
    match j, hj with
    | 0, hj => simp at hj; subst hj; simpa using h0
    | 1, hj => simp at hj; subst hj; exact h1
    | 2, hj => simp at hj; subst hj; exact h2
    | 3, hj => simp at hj; subst hj; exact h3
    | 4, hj => simp at hj; subst hj; exact h4
    | 5, hj => simp at hj; subst hj; exact h5
    | j + 6, hj =>
      have := hc j u (by simpa using hj)
      rwa [show o + 6 + j = o + (j + 6) by omega] at this
theorem RowIn.of_strs {w : World} {v : Value} {ws : List ByteArray} (h : StrsAt w v ws) : RowIn (fun _ => True) w v ws.length (ws.map Value.string) := by
  rcases h with ⟨a, c, rfl, rfl⟩ | ⟨b, o, c, rfl, hlt, hc⟩
  · exact .inl ⟨rfl, rfl, a, c, rfl⟩
  · refine .inr ⟨b, o, c, rfl, trivial, hlt, fun j u hu => ?_⟩
    have hj : j < ws.length := by have := (List.getElem?_eq_some_iff.1 hu).1; simpa using this
    rw [hc j hj]
    simp [hj] at hu
    subst hu
    simp [List.getD, hj]
theorem okNs_of : ∀ {l : List Val}, (∀ x ∈ l, okN x) → okNs l
  | [], _ => by unfold okNs; trivial
  | y :: r, h => by
    unfold okNs
    exact ⟨h y (List.mem_cons_self ..), okNs_of fun x hx => h x (List.mem_cons_of_mem _ hx)⟩
theorem u64_lo {n : Int} (h : (Lit.int .u64 n).wf = true) : 0 ≤ n := by
  simp [Lit.wf] at h
  have e : IntKind.u64.min = 0 := rfl
  omega
section
variable {H : Type} {enc : TypeId × Value → H}
theorem listV_of {α : Type} {n : Nat} {R : Nat → α → Prop} (h : ∀ i, i < n → ∃ x, R i x) : ∃ l : List α, l.length = n ∧ ∀ i x, l[i]? = some x → R i x := by
  refine ⟨List.ofFn fun i : Fin n => Classical.choose (h i i.2), by simp, fun i x hx => ?_⟩
  obtain ⟨hi', e⟩ := List.getElem?_eq_some_iff.1 hx
  simp at hi' e
  have := Classical.choose_spec (h i hi')
  rwa [e] at this
theorem strsV_of_cells {W : World} {fuel : Nat} {cs : List Value} {x : DataW H × List MemPlace} (hf : DataW.trod enc Tryz.prog W 0 (fun _ => true) true fuel 25 cs = some x) : ∃ v ws, cs = [v] ∧ StrsAt W v ws := by
  rcases open_strings Tryz.underlying25 Tryz.underlying9 Tryz.cellsVStr hf with ⟨hcs, -⟩ | ⟨a, len, cap, ss, hcs, _, hl, hm, hz, -, hcell, -⟩
  · exact ⟨_, [], hcs, .inl ⟨none, 0, rfl, rfl⟩⟩
  · simp only [if_true] at hz
    by_cases h0 : len = 0
    · subst h0; exact ⟨_, [], hcs, .inl ⟨some a, cap, rfl, rfl⟩⟩
    · obtain ⟨b, off, spot⟩ := a
      have hspot : spot = none := by simpa [Addr.add] using World.cell?_spot (hcell 0 (by omega))
      subst hspot
      have hl2 : (ss.take len).length = len := by simp; omega
      have hbl : b < W.heap.size := by
        have := World.block_lt_of_cell? W _ (hcell 0 (by omega))
        simpa [Addr.add] using this
      refine ⟨_, ss.take len, hcs, .inr ⟨b, off, cap, by rw [hl2], hbl, fun i hi => ?_⟩⟩
      have hi' : i < len := by omega
      have hc := hcell i (by omega)
      rw [add_plain] at hc
      rw [hc]
      simp [List.getD, hi']
theorem trod_struct6n {P : Program} {W : World} {base : Nat} {spare : Nat → Bool} {held : Bool} {t : TypeId} {f0 f1 f2 f3 f4 f5 : Field} {fuel : Nat} {cs : List Value} {x : DataW H × List MemPlace} (ht : P.underlying t = some (.struct #[f0, f1, f2, f3, f4, f5])) (h : DataW.trod enc P W base spare held fuel t cs = some x) :
    ∃ y0 y1 y2 y3 y4 y5 n, fuel = n + 1 ∧ cs.length = P.cellsOf t ∧ DataW.trod enc P W base spare held n f0.type ((cs.drop f0.offset).take (P.cellsOf f0.type)) = some y0 ∧
      DataW.trod enc P W base spare held n f1.type ((cs.drop f1.offset).take (P.cellsOf f1.type)) = some y1 ∧ DataW.trod enc P W base spare held n f2.type ((cs.drop f2.offset).take (P.cellsOf f2.type)) = some y2 ∧
      DataW.trod enc P W base spare held n f3.type ((cs.drop f3.offset).take (P.cellsOf f3.type)) = some y3 ∧ DataW.trod enc P W base spare held n f4.type ((cs.drop f4.offset).take (P.cellsOf f4.type)) = some y4 ∧
      DataW.trod enc P W base spare held n f5.type ((cs.drop f5.offset).take (P.cellsOf f5.type)) = some y5 := by
  obtain ⟨xs, n, hn, rfl, hl, hlen, hf⟩ := DataW.trod_struct ht h
  match xs, hlen with
  | [y0, y1, y2, y3, y4, y5], _ => exact ⟨y0, y1, y2, y3, y4, y5, n, hn, hl, by simpa using hf 0 f0 rfl, by simpa using hf 1 f1 rfl, by simpa using hf 2 f2 rfl, by simpa using hf 3 f3 rfl, by simpa using hf 4 f4 rfl, by simpa using hf 5 f5 rfl⟩
theorem val_of_cells {W : World} : ∀ (fuel : Nat) {cs : List Value} {x : DataW H × List MemPlace}, DataW.trod enc Tryz.prog W 0 (fun _ => true) true fuel 27 cs = some x → ∃ e : Val, cs.length = 6 ∧ ValC (fun _ => True) W cs e ∧ okN e := by
  intro fuel
  induction fuel using Nat.strongRecOn with
  | _ fuel ih =>
    intro cs x hf
    obtain ⟨y0, y1, y2, y3, y4, y5, n, hn, hl, h0, h1, h2, h3, h4, h5⟩ := trod_struct6n Tryz.underlying27 hf
    rw [Tryz.cellsVVal] at hl
    rw [Tryz.cellsVInt] at h0 h5
    rw [Tryz.cellsVStr] at h1
    rw [Tryz.cellsVU64] at h2
    rw [Tryz.cellsVVals] at h3
    rw [Tryz.cellsVStrs] at h4
    match cs, hl with
    | [u0, u1, u2, u3, u4, u5], _ =>
      obtain ⟨k, e0, -, -⟩ := DataW.trod_int Tryz.underlying3 h0
      obtain ⟨t, e1, -, -⟩ := DataW.trod_string Tryz.underlying9 h1
      obtain ⟨q, e2, -, hq⟩ := DataW.trod_int Tryz.underlying23 h2
      obtain ⟨z, e5, -, -⟩ := DataW.trod_int Tryz.underlying3 h5
      obtain ⟨v, ws, e4, hws⟩ := strsV_of_cells h4
      have hq0 := u64_lo hq
      simp at e0 e1 e2 e4 e5
      subst e0 e1 e2 e4 e5
      have hws' := RowIn.of_strs hws
      rcases DataW.trod_slice Tryz.underlying24 h3 with ⟨e3, -⟩ | ⟨a, len, cap, elems, rest, m, hm, e3, -, -, -, -, hel, hget, -, -⟩
      · simp at e3
        subst e3
        refine ⟨.mk k t q [] ws z, rfl, ?_, by unfold okN okNs; exact ⟨hq0, trivial⟩⟩
        unfold ValC
        exact ⟨_, _, [], rfl, hws', RowIn.nil _ _, ValsC.nil⟩
      · simp at e3
        subst e3
        by_cases hz : len = 0
        · subst hz
          refine ⟨.mk k t q [] ws z, rfl, ?_, by unfold okN okNs; exact ⟨hq0, trivial⟩⟩
          unfold ValC
          exact ⟨_, _, [], rfl, hws', .inl ⟨rfl, rfl, _, _, rfl⟩, ValsC.nil⟩
        · rw [Tryz.cellsVVal] at hget
          have key : ∀ i, i < len → ∃ e : Val, ∃ c0 c1 c2 c3 c4 c5, (ValC (fun _ => True) W [c0, c1, c2, c3, c4, c5] e ∧ okN e) ∧ W.cell? (a.add (i * 6)) = some c0 ∧ W.cell? (a.add (i * 6 + 1)) = some c1 ∧ W.cell? (a.add (i * 6 + 2)) = some c2 ∧ W.cell? (a.add (i * 6 + 3)) = some c3 ∧ W.cell? (a.add (i * 6 + 4)) = some c4 ∧ W.cell? (a.add (i * 6 + 5)) = some c5 := by
            intro i hi
            have hg := hget i hi
            rw [List.getElem?_eq_getElem (by omega : i < elems.length)] at hg
            obtain ⟨cs', hc, ht⟩ := Option.bind_eq_some_iff.1 hg
            obtain ⟨_, hcl, hat⟩ := World.cells?_some hc
            obtain ⟨e, -, he⟩ := ih m (by omega) ht
            match cs', hcl with
            | [c0, c1, c2, c3, c4, c5], _ =>
              refine ⟨e, c0, c1, c2, c3, c4, c5, he, ?_, ?_, ?_, ?_, ?_, ?_⟩
              · have := hat 0 (by simp); rw [Go.Deep.add_add] at this; simpa using this
              · have := hat 1 (by simp); rw [Go.Deep.add_add] at this; simpa using this
              · have := hat 2 (by simp); rw [Go.Deep.add_add] at this; simpa using this
              · have := hat 3 (by simp); rw [Go.Deep.add_add] at this; simpa using this
              · have := hat 4 (by simp); rw [Go.Deep.add_add] at this; simpa using this
              · have := hat 5 (by simp); rw [Go.Deep.add_add] at this; simpa using this
          obtain ⟨b, off, spot⟩ := a
          have hspot : spot = none := by
            obtain ⟨_, _, _, _, _, _, _, -, hx, -⟩ := key 0 (by omega)
            simpa [Addr.add] using World.cell?_spot hx
          subst hspot
          have hbl : b < W.heap.size := by
            obtain ⟨_, _, _, _, _, _, _, -, hx, -⟩ := key 0 (by omega)
            have := World.block_lt_of_cell? W _ hx
            simpa [Addr.add] using this
          obtain ⟨kids, hkl, hR⟩ := listV_of key
          obtain ⟨xs, hxs, hc⟩ := valsC_of (P := fun _ => True) (W := W) (b := b) kids off (fun i y hy => by
            obtain ⟨c0, c1, c2, c3, c4, c5, he, k0, k1, k2, k3, k4, k5⟩ := hR i y hy
            rw [add_plain] at k0 k1 k2 k3 k4 k5
            exact ⟨c0, c1, c2, c3, c4, c5, he.1, k0, by simpa [Nat.add_assoc] using k1, by simpa [Nat.add_assoc] using k2, by simpa [Nat.add_assoc] using k3, by simpa [Nat.add_assoc] using k4, by simpa [Nat.add_assoc] using k5⟩)
          refine ⟨.mk k t q kids ws z, rfl, ?_, ?_⟩
          · unfold ValC
            exact ⟨_, _, xs, rfl, hws', .inr ⟨b, off, cap, by rw [hkl], trivial, hbl, hc⟩, hxs⟩
          · unfold okN
            refine ⟨hq0, okNs_of fun x hx => ?_⟩
            obtain ⟨i, hi, rfl⟩ := List.getElem_of_mem hx
            obtain ⟨_, _, _, _, _, _, he, -⟩ := hR i _ (List.getElem?_eq_getElem hi)
            exact he.2
theorem val_of_trod {W : World} {v : Value} {d : DataW H} {ps : List MemPlace} (h : DataW.Trod enc Tryz.prog W 0 (fun _ => true) true 27 v d ps) :
    ∃ k t u a l c a' l' c' z e, v = .agg #[.int .i64 k, .string t, .int .u64 u, .slice a l c, .slice a' l' c', .int .i64 z] ∧ ValC (fun _ => True) W [.int .i64 k, .string t, .int .u64 u, .slice a l c, .slice a' l' c', .int .i64 z] e ∧ okN e := by
  obtain ⟨fuel, hf⟩ := h
  obtain ⟨e, hl, he, hn⟩ := val_of_cells fuel hf
  cases v with
  | agg cs =>
    obtain ⟨l⟩ := cs
    simp only [Value.cells] at hl he
    obtain ⟨k, t, u, a, n, c, a', n', c', z, rfl⟩ := he.form
    exact ⟨_, _, _, _, _, _, _, _, _, _, e, rfl, he, hn⟩
  | _ => simp [Value.cells] at hl
end
end Go.Proofs.YtajmlkephefapaaGreatDoor

namespace Go.Proofs.YtajmlkephefapaaGreatDoor
open Go.ChangeShapes Go.WideShapes Go.ChangeAt Go.RowKit

set_option maxRecDepth 100000 in
theorem inkWrites_lifted (os : Os) (started : os.Started) (H : Type) (enc : TypeId × Value → H) :
    ReturnsInHanded {} Tryz.checked os 4 .any (fun w args => (Rows.inkWritesSpec.pre enc Tryz.prog Tryz.f4 [] false w args ∧ laidMetH Tryz.prog lone4 w) ∧ sizedMet enc Tryz.prog Tryz.f4 (OpenSpec.ofChange Rows.inkWritesSpec) false w args)
      (Rows.inkWritesSpec.post enc Tryz.prog Tryz.f4 false true false false) := by
  refine returnsInHanded_of_change_and (C := Tryz.checked) (X := fun w _ => laidMetH Tryz.prog lone4 w) (fun _ _ _ hh h => h.of_heap hh) Tryz.own started (by kernel_rfl) Tryz.func4
    (ChangeSpec.witness_shaped (enc := enc) (C := Tryz.checked) (os := os) (X := fun w _ => laidMetH Tryz.prog lone4 w) false (laidWorld4 os) #[.agg #[.int .i64 0, .string ByteArray.empty, .int .u64 0, .slice none 0 0, .slice none 0 0, .int .i64 0]] 8 rfl (World.shaped_of_RefB (by kernel_rfl) (by kernel_rfl)) (by kernel_rfl) (by kernel_rfl) (by kernel_rfl) (laidWorld4_met os _)) ?_
  intro W base args ds gs before hval0 hW _ _ hL _
  have hval : ∀ (j : Nat) t v, Tryz.f4.params[j]? = some t → args[j]? = some v → Value.okWide Tryz.prog W .any base t v := hval0
  have hW' := hW
  obtain ⟨p, q, hA0, hV, rfl, hfz, hnd⟩ := hW
  have hA : DataW.TrodAll enc Tryz.prog W 0 (fun _ => true) true Tryz.f4.params.toList args.toList ds p := hA0
  rw [Tryz.params4] at hA hval
  obtain ⟨v0, d0, rfl, rfl, h0⟩ := trodAll_one hA
  obtain ⟨vk, vt, vu, va, vl, vc, va', vl', vc', vz, vx, rfl, hx, hn⟩ := val_of_trod h0
  refine (inkWrites_any vx _ _ _ _ _ _ _ _ _ _ W hx hn (handle_of_laid4 hL) (tab_of_laid4 hL)).mono fun e W' ⟨he, hb⟩ => ?_
  subst he
  exact ⟨_, rfl, law_post (by kernel_rfl) rfl (by rw [Tryz.params4]; decide +kernel) hW' hb (by simp [Rows.inkWritesSpec]) (by simp [Rows.inkWritesSpec]) (by simp [Rows.inkWritesSpec])⟩

theorem inkWrites_holds : Rows.InkWritesSaid :=
  OpenClaim.holds_of_wide 4 Tryz.f4 rfl rfl rfl rfl rfl rfl rfl ⟨rfl, rfl, rfl, rfl, rfl⟩ rfl rfl rfl rfl rfl (by kernel_rfl) Tryz.func4 (by kernel_rfl)
    (of_decide_eq_true (by kernel_rfl)) (by unfold Func.isWrapper; rw [if_neg (of_decide_eq_false (by kernel_rfl))]; exact ⟨rfl, rfl⟩)
    (fun os started H enc _ => inkWrites_lifted os started H enc)

theorem inkWrites_card : Rows.InkWritesCardSaid :=
  Claim7.holds_tied_plain_at .later [] [.data, .data, .data, .handle] true Rows.inkWritesCard.stood.harness true
    inkWrites_holds (fun _ h => by cases h) (by kernel_rfl) (fun _ h => by cases h) inkWrites_row_tie rfl ⟨rfl, rfl⟩ (by kernel_rfl) rfl
    (fun f fn hf hfn => by
      obtain rfl : f = 4 := Option.some.inj ((show Tryz.prog.funcNamed "fairlead/fairleadlaw06.InkWrites" = some 4 by kernel_rfl).symm.trans hf) |>.symm
      obtain rfl : fn = Tryz.f4 := (Option.some.inj (Tryz.func4.symm.trans hfn)).symm
      exact ⟨by kernel_rfl, fun j t ht => by
        have hk : ∀ t ∈ Tryz.f4.params.toList, Tryz.prog.wantsStandIn t = false := by rw [Tryz.params4]; decide +kernel
        exact hk t (by
          obtain ⟨hj, e⟩ := Array.getElem?_eq_some_iff.1 ht
          rw [← e]
          simp)⟩)
    (by kernel_rfl)
#print axioms inkWrites_card
end Go.Proofs.YtajmlkephefapaaGreatDoor
