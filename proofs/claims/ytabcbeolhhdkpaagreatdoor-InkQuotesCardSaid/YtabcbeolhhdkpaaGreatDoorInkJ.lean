/-
  Package ink by contracts: chapter 6's awake.
-/
import Derived.Test.YtabcbeolhhdkpaaGreatDoorInkI
import Derived.Test.YtabcbeolhhdkpaaGreatDoorRDig2
import Derived.Test.YtabcbeolhhdkpaaGreatDoorTreeR
namespace Go.Proofs.YtabcbeolhhdkpaaGreatDoor
open Go.RowKit Go.Extern.Stop Go.Stop Go.Extern Go.WideMaps

def v6 : Val := .mk 6 ⟨#[]⟩ 0 [.mk 2 ⟨#[]⟩ 0 [] [] 0] [⟨#[97]⟩] 0
def t6 : List UInt8 := [123, 34, 97, 34, 58, 116, 114, 117, 101, 125]
theorem inkV6 : inkV v6 = t6 := by
  simp [v6, t6, inkV, inkVs, inkJ, quoL, bodyQ, signQ]
theorem whole6 : WholeV v6 := .mk _ _ _ _ _ _ (fun _ => rfl) (by decide) (by intro s hs; simp at hs; subst hs; decide) (by
  intro x hx
  simp at hx
  subst hx
  exact .mk _ _ _ _ _ _ (fun h => absurd h (by decide)) (by decide) (by intro s hs; cases hs) (by intro x hx; cases hx) (by decide)) (by decide)
theorem val6 {W : World} {b0 kb c c' : Nat} (h : OneAt W b0 kb) : ValC (fun q => q < W.heap.size) W [.int .i64 6, .string ⟨#[]⟩, .int .u64 0, .slice (some ⟨b0, 0, none⟩) 1 c, .slice (some ⟨kb, 0, none⟩) 1 c', .int .i64 0] v6 := by
  unfold v6 ValC
  refine ⟨_, _, [.int .i64 2, .string ⟨#[]⟩, .int .u64 0, .slice none 0 0, .slice none 0 0, .int .i64 0], rfl, .inr ⟨kb, 0, c', rfl, h.lt.2, h.lt.2, ?_⟩, .inr ⟨b0, 0, c, rfl, h.lt.1, h.lt.1, ?_⟩, ?_⟩
  · intro j u hj
    match j, hj with
    | 0, hj => injection hj with hj; subst hj; exact h.k
    | j + 1, hj => simp at hj
  · intro j u hj
    match j, hj with
    | 0, hj => injection hj with hj; subst hj; exact h.c0
    | 1, hj => injection hj with hj; subst hj; exact h.c1
    | 2, hj => injection hj with hj; subst hj; exact h.c2
    | 3, hj => injection hj with hj; subst hj; exact h.c3
    | 4, hj => injection hj with hj; subst hj; exact h.c4
    | 5, hj => injection hj with hj; subst hj; exact h.c5
    | j + 6, hj => simp at hj
  · unfold ValsC
    exact ⟨_, [], by rw [List.append_nil], ValC.leaf _ _ 2 ⟨#[]⟩ 0 0, by unfold ValsC; rfl⟩
set_option maxRecDepth 100000 in
set_option maxHeartbeats 2000000 in
theorem iText_one (b0 kb c c' : Nat) (w : World) (h1 : OneAt w b0 kb) (hT : Tab w) :
    Calls Tryz.prog 10 #[.agg #[.int .i64 6, .string ⟨#[]⟩, .int .u64 0, .slice (some ⟨b0, 0, none⟩) 1 c, .slice (some ⟨kb, 0, none⟩) 1 c', .int .i64 0]] w fun e w' => e = .returned (.tuple #[.string ⟨t6.toArray⟩, .nilIface]) ∧ Below w.heap.size w w' := by
  have HO := Lib.hid (fun W (hW : Below w.heap.size w W) => iCheck_one b0 kb c c' W (h1.below hW))
  have HW : Hid (∀ W, Below w.heap.size w W → Calls Tryz.prog 23 #[.pointer (some ⟨W.heap.size, 0, none⟩), .agg #[.int .i64 6, .string ⟨#[]⟩, .int .u64 0, .slice (some ⟨b0, 0, none⟩) 1 c, .slice (some ⟨kb, 0, none⟩) 1 c', .int .i64 0]] (W.alloc (.cells #[.pointer none, .slice none 0 0] 40))
      fun e w' => e = .returned (.tuple #[]) ∧ BldAt W.heap.size W.heap.size (Lib.byteCells t6) w' ∧ Below W.heap.size W w') := Lib.hid (fun W hW => by
    have hb := sbelow_new W (.cells #[.pointer none, .slice none 0 0] 40)
    have hB : BldAt W.heap.size W.heap.size (Lib.byteCells []) (W.alloc (.cells #[.pointer none, .slice none 0 0] 40)) := BldAt.new W
    have hv : ValC (fun q => q < W.heap.size) (W.alloc (.cells #[.pointer none, .slice none 0 0] 40)) _ v6 := (val6 (c := c) (c' := c') (h1.below hW)).step hb
    have hTW := hT.below hW
    have := write_go (fun u W h0 ht => adigits_any u h0 W ht) (SizeOf.sizeOf v6 + 1) v6 (by omega) whole6 W.heap.size W.heap.size [] _ 6 ⟨#[]⟩ 0 _ 1 c _ 1 c' 0 hv hB hb.size hTW.lt (hTW.below hb) (by rw [inkV6]; decide)
    rw [inkV6] at this
    exact this.mono fun e w' h => ⟨h.1, h.2.1, hb.trans h.2.2.1⟩)
  have HSt := Lib.hid (fun B b l W h hB => bldString_any B b l W h hB)
  have HB0 := Lib.hid (sbelow_new w (.cells #[.int .i64 6, .string ⟨#[]⟩, .int .u64 0, .slice (some ⟨b0, 0, none⟩) 1 c, .slice (some ⟨kb, 0, none⟩) 1 c', .int .i64 0] 28))
  have H6 : Hid (SixAt (w.alloc (.cells #[.int .i64 6, .string ⟨#[]⟩, .int .u64 0, .slice (some ⟨b0, 0, none⟩) 1 c, .slice (some ⟨kb, 0, none⟩) 1 c', .int .i64 0] 28)) w.heap.size (.int .i64 6) (.string ⟨#[]⟩) (.int .u64 0) (.slice (some ⟨b0, 0, none⟩) 1 c) (.slice (some ⟨kb, 0, none⟩) 1 c') (.int .i64 0)) := Lib.hid (heap_alloc_new w _)
  obtain ⟨s0, s1, s2, s3, s4, s5⟩ := H6.out.cells
  clear h1 hT
  go_enter Tryz.func10, Tryz.ntmps10
  go_wp2_with fail
  refine (HO.out _ HB0.out).mono ?_
  rintro e w2 ⟨rfl, b2⟩
  have HB2 := Lib.hid (HB0.out.trans (b2.mono HB0.out.size))
  have H62 := Lib.hid ((H6.out.step b2).step (sbelow_new w2 (.cells #[.pointer none, .slice none 0 0] 40)))
  clear b2 s0 s1 s2 s3 s4 s5
  obtain ⟨s0, s1, s2, s3, s4, s5⟩ := H62.out.cells
  go_wp2_with fail
  refine (HW.out _ HB2.out).mono ?_
  rintro e w3 ⟨rfl, h3, b3⟩
  have H3 := Lib.hid h3
  have HB3 := Lib.hid (HB2.out.trans (b3.mono HB2.out.size))
  have HZ := Lib.hid b3.size
  clear h3 b3 s0 s1 s2 s3 s4 s5
  go_wp2_with fail
  refine (HSt.out _ _ _ _ H3.out HZ.out).mono ?_
  rintro e w4 ⟨rfl, -, b4, -⟩
  have HB4 := Lib.hid (HB3.out.trans (b4.mono HB2.out.size))
  clear b4
  go_wp2_with fail
  go_ret2
  exact ⟨rfl, HB4.out⟩
end Go.Proofs.YtabcbeolhhdkpaaGreatDoor
