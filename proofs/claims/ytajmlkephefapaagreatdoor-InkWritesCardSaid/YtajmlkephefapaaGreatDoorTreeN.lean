/-
  Package tree by contracts, twelfth part: a value.
-/
import Derived.Test.YtajmlkephefapaaGreatDoorTreeM
import Derived.Deep.DeepCutAuto
import Derived.Deep.CutRange
import Derived.Deep.CutBlock
namespace Go.Proofs.YtajmlkephefapaaGreatDoor
open Go.RowKit Go.Extern.Stop Go.Stop Go.Extern Go.WideMaps

set_option maxRecDepth 100000 in
set_option maxHeartbeats 20000000 in
theorem value_step (s : ByteArray) (d p0 : Nat) (hs : s.size ≤ 100000) (hp0 : p0 ≤ s.size) (hd : d ≤ 64) (hV : d < 64 → ValueSpec s (d + 1)) (w : World) (hg : Handle w) :
    Calls Tryz.prog 28 #[.agg #[.string s, .int .i64 p0], .int .i64 d] w (ValueOut w s d p0) := by
  have hsk := sk_le s p0 hp0
  have HS : Hid (∀ w, Calls Tryz.prog 53 #[.agg #[.string s, .int .i64 p0]] w fun e w' => e = .returned (.agg #[.string s, .int .i64 (sk s p0 : Nat)]) ∧ Below w.heap.size w w') := Lib.hid (fun w => skip_any s p0 hs hp0 w)
  have HD := Lib.hid hd
  have HV := Lib.hid hV
  have HG := Lib.hid hg
  obtain ⟨wa, hwa⟩ : ∃ wa, wa = w.alloc (.cells #[.string s, .int .i64 p0] 58) := ⟨_, rfl⟩
  obtain ⟨wb, hwb⟩ : ∃ wb, wb = wa.alloc (.cells #[.string ⟨#[]⟩, .int .i64 0] 58) := ⟨_, rfl⟩
  obtain ⟨wc, hwc⟩ : ∃ wc, wc = wb.alloc (.cells #[.int .i64 0, .string ⟨#[]⟩, .int .u64 0, .slice none 0 0, .slice none 0 0, .int .i64 0] 27) := ⟨_, rfl⟩
  have sa : wa.heap.size = w.heap.size + 1 := by rw [hwa]; simp
  have sb : wb.heap.size = w.heap.size + 2 := by rw [hwb]; simp [sa]
  have sc : wc.heap.size = w.heap.size + 3 := by rw [hwc]; simp [sb]
  have bw : Below w.heap.size w wa := by rw [hwa]; exact sbelow_new _ _
  have ba : Below wa.heap.size wa wb := by rw [hwb]; exact sbelow_new _ _
  have bb : Below wb.heap.size wb wc := by rw [hwc]; exact sbelow_new _ _
  have own0 : ScanS wa w.heap.size s p0 := by rw [hwa]; exact ScanS.new w s p0
  have res0 : ScanS wb (w.heap.size + 1) ⟨#[]⟩ 0 := by rw [hwb, ← sa]; exact ScanS.new wa ⟨#[]⟩ 0
  have rv0 : SixAt wc (w.heap.size + 2) (.int .i64 0) (.string ⟨#[]⟩) (.int .u64 0) (.slice none 0 0) (.slice none 0 0) (.int .i64 0) := by rw [hwc, ← sb]; exact heap_alloc_new wb _
  have HOWN := Lib.hid ((own0.step ba).step bb)
  have HRES := Lib.hid (res0.step bb)
  have HRV := Lib.hid rv0
  have HSZ := Lib.hid sc
  have HB := Lib.hid (bw.trans ((ba.trans (bb.mono ba.size)).mono bw.size))
  have oo := HOWN.out.1.2.1
  have o1 := HOWN.out.1.2.2.1
  rw [hwc, hwb, hwa] at HOWN HRES HRV HSZ HB oo o1
  clear rv0 res0 own0 bb ba bw sc sb sa hwc hwb hwa wa wb wc hV hd hg
  generalize hp : sk s p0 = p at *
  have HP := Lib.hid hp
  have HPK := Lib.hid (fun w => peek_any s p hsk.2 w)
  have HAT := Lib.hid (fun w => at_any s p w)
  obtain ⟨K, hK⟩ : ∃ K, K = kindT (byteI s p) := ⟨_, rfl⟩
  have HKI := Lib.hid hK.symm
  clear hp hK
  go_enter Tryz.func28, Tryz.ntmps28
  go_wp2_with fail
  refine (HS.out _).mono ?_
  rintro e w1 ⟨rfl, b1⟩
  generalize ((w.alloc (.cells #[.string s, .int .i64 p0] 58)).alloc (.cells #[.string ⟨#[]⟩, .int .i64 0] 58)).alloc (.cells #[.int .i64 0, .string ⟨#[]⟩, .int .u64 0, .slice none 0 0, .slice none 0 0, .int .i64 0] 27) = wd at *
  have own1 := HOWN.out.step b1
  have hB1 := HB.out.trans (b1.mono HB.out.size)
  have hsz1 : w.heap.size + 3 ≤ w1.heap.size := by have := b1.size; have := HSZ.out; omega
  have HM : Hid (VM w s p ((w1.setCell ⟨w.heap.size, 0, none⟩ (.string s)).setCell ⟨w.heap.size, 1, none⟩ (.int .i64 p))) := Lib.hid ⟨own1.set s p, ((HRES.out.step b1).other w.heap.size 0 (.string s) (by omega)).other w.heap.size 1 (.int .i64 p) (by omega),
    ((HRV.out.step b1).far (q := ⟨w.heap.size, 0, none⟩) (by show _ ≠ w.heap.size; omega) (.string s)).far (q := ⟨w.heap.size, 1, none⟩) (by show _ ≠ w.heap.size; omega) (.int .i64 p), by rw [World.size_setCell, World.size_setCell]; exact hsz1,
    (hB1.setCell (p := ⟨w.heap.size, 0, none⟩) (Nat.le_refl _) (.string s)).setCell (p := ⟨w.heap.size, 1, none⟩) (Nat.le_refl _) (.int .i64 p)⟩
  obtain ⟨-, c0, c1, cf⟩ := own1.1
  clear own1 hB1 hsz1 b1 HOWN HRES HRV HSZ HB oo o1 HS
  go_upto_region 2 with fail
  generalize (w1.setCell ⟨w.heap.size, 0, none⟩ (.string s)).setCell ⟨w.heap.size, 1, none⟩ (.int .i64 p) = w2 at *
  clear c0 c1 cf
  go_cut [7] (fun v7 wx => ∃ q : Nat, v7 = .pointer (some ⟨q, 0, none⟩) ∧ VS w s p q (.int .i64 K) (.string ⟨#[]⟩) (.int .u64 0) (.slice none 0 0) (.slice none 0 0) (.int .i64 p) wx)
  case first =>
    refine region_T (fun w' => w'.cell? ⟨w.heap.size, 0, none⟩ = some (.string s) ∧ w'.cell? ⟨w.heap.size, 1, none⟩ = some (.int .i64 p)) 7 (by kernel_rfl) ?_
    have m0 : VM w s p w2.drew := HM.out.step (Below.drew (Below.refl _ _))
    generalize w2.drew = x0 at m0 ⊢
    have hS0 := m0.S
    refine wpT_take (i := 0) (v := .agg #[.string s, .int .i64 p]) rfl (by kernel_rfl) (by kernel_rfl) (by kernel_rfl) (by kernel_rfl) (by kernel_rfl) (by kernel_rfl) (by kernel_rfl) (by kernel_rfl) (fun _ _ _ h => h) (Or.inl ⟨by rfl, ?_⟩) hS0 ?_
    · rintro w' ⟨h1, h2⟩
      go_simp
    try simp only [Act.put, List.setIfInBounds_toArray, List.set_cons_zero, List.set_cons_succ]
    refine wpT_take (i := 3) (v := .agg #[.string s, .int .i64 p]) rfl (by kernel_rfl) (by kernel_rfl) (by kernel_rfl) (by kernel_rfl) (by kernel_rfl) (by kernel_rfl) (by kernel_rfl) (by kernel_rfl) (fun _ _ _ h => h) (Or.inl ⟨by rfl, ?_⟩) hS0 ?_
    · rintro w' ⟨h1, h2⟩
      go_simp
    try simp only [Act.put, List.setIfInBounds_toArray, List.set_cons_zero, List.set_cons_succ]
    refine wpT_two (i := 1) (i' := 6) (by kernel_rfl) rfl rfl ?_ ?_
    · intro KK hKK
      go_simp
      refine (HPK.out _).mono ?_
      rintro e x1 ⟨rfl, b1⟩
      have m1 := m0.step b1
      refine hKK _ _ ⟨fun _ => m1.S, ?_⟩
      clear hKK b1
      try simp only [Act.put, List.setIfInBounds_toArray, List.set_cons_zero, List.set_cons_succ]
      refine wpT_two (i := 2) (i' := 6) (by kernel_rfl) rfl rfl ?_ ?_
      · intro KK hKK
        go_simp
        refine (kindOf_any _ _).mono ?_
        rintro e wn ⟨rfl, rfl⟩
        rw [HKI.out]
        refine hKK _ _ ⟨fun _ => m1.S, ?_⟩
        clear hKK
        try simp only [Act.put, List.setIfInBounds_toArray, List.set_cons_zero, List.set_cons_succ]
        refine wpT_two (i := 4) (i' := 6) (by kernel_rfl) rfl rfl ?_ ?_
        · intro KK hKK
          go_simp
          refine (HAT.out _).mono ?_
          rintro e x3 ⟨rfl, b3⟩
          have m3 := m1.step b3
          refine hKK _ _ ⟨fun _ => m3.S, ?_⟩
          clear hKK b3
          try simp only [Act.put, List.setIfInBounds_toArray, List.set_cons_zero, List.set_cons_succ]
          refine wpT_two (i := 5) (i' := 6) (by kernel_rfl) rfl rfl ?_ ?_
          · intro KK hKK
            go_simp
            refine hKK _ _ ⟨fun _ => m3.S, ?_⟩
            clear hKK
            try simp only [Act.put, List.setIfInBounds_toArray, List.set_cons_zero, List.set_cons_succ]
            refine wpT_one (i := 6) (by kernel_rfl) rfl ?_
            intro KK hKK
            go_simp
            have m5 := m3.step (sbelow_new x3 (.cells #[.int .i64 0, .string ⟨#[]⟩, .int .u64 0, .slice none 0 0, .slice none 0 0, .int .i64 0] 27))
            have hq5 := m3.size
            have s5 : SixAt (x3.alloc (.cells #[.int .i64 0, .string ⟨#[]⟩, .int .u64 0, .slice none 0 0, .slice none 0 0, .int .i64 0] 27)) x3.heap.size (.int .i64 0) (.string ⟨#[]⟩) (.int .u64 0) (.slice none 0 0) (.slice none 0 0) (.int .i64 0) := heap_alloc_new x3 _
            generalize x3.alloc (.cells #[.int .i64 0, .string ⟨#[]⟩, .int .u64 0, .slice none 0 0, .slice none 0 0, .int .i64 0] 27) = x5 at *
            generalize x3.heap.size = q at *
            refine hKK _ _ ⟨fun _ => m5.S, ?_⟩
            clear hKK
            try simp only [Act.put, List.setIfInBounds_toArray, List.set_cons_zero, List.set_cons_succ]
            refine wpT_tail 7 1 rfl rfl (by kernel_rfl) (by kernel_rfl) ?_
            have hvs := m5.val s5 hq5
            obtain ⟨z0, z1, z2, z3, z4, z5⟩ := hvs.val.cells
            have zf := hvs.val.fz
            have HVS := Lib.hid (hvs.put6 (.int .i64 K) (.string ⟨#[]⟩) (.int .u64 0) (.slice none 0 0) (.slice none 0 0) (.int .i64 p))
            unfold set6 at HVS
            clear hvs hS0
            go_wp2_with fail
            go_meet
            exact ⟨_, rfl, HVS.out⟩
          · intro KK hKK
            go_simp
            have m6 := m3.step (sbelow_new x3 (.cells #[.int .i64 0, .string ⟨#[]⟩, .int .u64 0, .slice none 0 0, .slice none 0 0, .int .i64 0] 27))
            have hq6 := m3.size
            have s6 : SixAt (x3.alloc (.cells #[.int .i64 0, .string ⟨#[]⟩, .int .u64 0, .slice none 0 0, .slice none 0 0, .int .i64 0] 27)) x3.heap.size (.int .i64 0) (.string ⟨#[]⟩) (.int .u64 0) (.slice none 0 0) (.slice none 0 0) (.int .i64 0) := heap_alloc_new x3 _
            generalize x3.alloc (.cells #[.int .i64 0, .string ⟨#[]⟩, .int .u64 0, .slice none 0 0, .slice none 0 0, .int .i64 0] 27) = x6 at *
            generalize x3.heap.size = q at *
            refine hKK _ _ ⟨fun _ => m6.S, ?_⟩
            clear hKK
            try simp only [Act.put, List.setIfInBounds_toArray, List.set_cons_zero, List.set_cons_succ]
            refine wpT_one (i := 5) (by kernel_rfl) rfl ?_
            intro KK hKK
            go_simp
            refine hKK _ _ ⟨fun _ => m6.S, ?_⟩
            clear hKK
            try simp only [Act.put, List.setIfInBounds_toArray, List.set_cons_zero, List.set_cons_succ]
            refine wpT_tail 7 1 rfl rfl (by kernel_rfl) (by kernel_rfl) ?_
            have hvs := m6.val s6 hq6
            obtain ⟨z0, z1, z2, z3, z4, z5⟩ := hvs.val.cells
            have zf := hvs.val.fz
            have HVS := Lib.hid (hvs.put6 (.int .i64 K) (.string ⟨#[]⟩) (.int .u64 0) (.slice none 0 0) (.slice none 0 0) (.int .i64 p))
            unfold set6 at HVS
            clear hvs hS0
            go_wp2_with fail
            go_meet
            exact ⟨_, rfl, HVS.out⟩
        · intro KK hKK
          go_simp
          have m8 := m1.step (sbelow_new x1 (.cells #[.int .i64 0, .string ⟨#[]⟩, .int .u64 0, .slice none 0 0, .slice none 0 0, .int .i64 0] 27))
          have hq8 := m1.size
          have s8 : SixAt (x1.alloc (.cells #[.int .i64 0, .string ⟨#[]⟩, .int .u64 0, .slice none 0 0, .slice none 0 0, .int .i64 0] 27)) x1.heap.size (.int .i64 0) (.string ⟨#[]⟩) (.int .u64 0) (.slice none 0 0) (.slice none 0 0) (.int .i64 0) := heap_alloc_new x1 _
          generalize x1.alloc (.cells #[.int .i64 0, .string ⟨#[]⟩, .int .u64 0, .slice none 0 0, .slice none 0 0, .int .i64 0] 27) = x8 at *
          generalize x1.heap.size = q at *
          refine hKK _ _ ⟨fun _ => m8.S, ?_⟩
          clear hKK
          try simp only [Act.put, List.setIfInBounds_toArray, List.set_cons_zero, List.set_cons_succ]
          refine wpT_one (i := 4) (by kernel_rfl) rfl ?_
          intro KK hKK
          go_simp
          refine (HAT.out _).mono ?_
          rintro e x9 ⟨rfl, b9⟩
          have m9 := m8.step b9
          have s9 := s8.step b9
          refine hKK _ _ ⟨fun _ => m9.S, ?_⟩
          clear hKK b9
          try simp only [Act.put, List.setIfInBounds_toArray, List.set_cons_zero, List.set_cons_succ]
          refine wpT_one (i := 5) (by kernel_rfl) rfl ?_
          intro KK hKK
          go_simp
          refine hKK _ _ ⟨fun _ => m9.S, ?_⟩
          clear hKK
          try simp only [Act.put, List.setIfInBounds_toArray, List.set_cons_zero, List.set_cons_succ]
          refine wpT_tail 7 1 rfl rfl (by kernel_rfl) (by kernel_rfl) ?_
          have hvs := m9.val s9 hq8
          obtain ⟨z0, z1, z2, z3, z4, z5⟩ := hvs.val.cells
          have zf := hvs.val.fz
          have HVS := Lib.hid (hvs.put6 (.int .i64 K) (.string ⟨#[]⟩) (.int .u64 0) (.slice none 0 0) (.slice none 0 0) (.int .i64 p))
          unfold set6 at HVS
          clear hvs hS0
          go_wp2_with fail
          go_meet
          exact ⟨_, rfl, HVS.out⟩
      · intro KK hKK
        go_simp
        have m11 := m1.step (sbelow_new x1 (.cells #[.int .i64 0, .string ⟨#[]⟩, .int .u64 0, .slice none 0 0, .slice none 0 0, .int .i64 0] 27))
        have hq11 := m1.size
        have s11 : SixAt (x1.alloc (.cells #[.int .i64 0, .string ⟨#[]⟩, .int .u64 0, .slice none 0 0, .slice none 0 0, .int .i64 0] 27)) x1.heap.size (.int .i64 0) (.string ⟨#[]⟩) (.int .u64 0) (.slice none 0 0) (.slice none 0 0) (.int .i64 0) := heap_alloc_new x1 _
        generalize x1.alloc (.cells #[.int .i64 0, .string ⟨#[]⟩, .int .u64 0, .slice none 0 0, .slice none 0 0, .int .i64 0] 27) = x11 at *
        generalize x1.heap.size = q at *
        refine hKK _ _ ⟨fun _ => m11.S, ?_⟩
        clear hKK
        try simp only [Act.put, List.setIfInBounds_toArray, List.set_cons_zero, List.set_cons_succ]
        refine wpT_one (i := 2) (by kernel_rfl) rfl ?_
        intro KK hKK
        go_simp
        refine (kindOf_any _ _).mono ?_
        rintro e wn ⟨rfl, rfl⟩
        rw [HKI.out]
        refine hKK _ _ ⟨fun _ => m11.S, ?_⟩
        clear hKK
        try simp only [Act.put, List.setIfInBounds_toArray, List.set_cons_zero, List.set_cons_succ]
        refine wpT_one (i := 4) (by kernel_rfl) rfl ?_
        intro KK hKK
        go_simp
        refine (HAT.out _).mono ?_
        rintro e x13 ⟨rfl, b13⟩
        have m13 := m11.step b13
        have s13 := s11.step b13
        refine hKK _ _ ⟨fun _ => m13.S, ?_⟩
        clear hKK b13
        try simp only [Act.put, List.setIfInBounds_toArray, List.set_cons_zero, List.set_cons_succ]
        refine wpT_one (i := 5) (by kernel_rfl) rfl ?_
        intro KK hKK
        go_simp
        refine hKK _ _ ⟨fun _ => m13.S, ?_⟩
        clear hKK
        try simp only [Act.put, List.setIfInBounds_toArray, List.set_cons_zero, List.set_cons_succ]
        refine wpT_tail 7 1 rfl rfl (by kernel_rfl) (by kernel_rfl) ?_
        have hvs := m13.val s13 hq11
        obtain ⟨z0, z1, z2, z3, z4, z5⟩ := hvs.val.cells
        have zf := hvs.val.fz
        have HVS := Lib.hid (hvs.put6 (.int .i64 K) (.string ⟨#[]⟩) (.int .u64 0) (.slice none 0 0) (.slice none 0 0) (.int .i64 p))
        unfold set6 at HVS
        clear hvs hS0
        go_wp2_with fail
        go_meet
        exact ⟨_, rfl, HVS.out⟩
    · intro KK hKK
      go_simp
      have m15 := m0.step (sbelow_new x0 (.cells #[.int .i64 0, .string ⟨#[]⟩, .int .u64 0, .slice none 0 0, .slice none 0 0, .int .i64 0] 27))
      have hq15 := m0.size
      have s15 : SixAt (x0.alloc (.cells #[.int .i64 0, .string ⟨#[]⟩, .int .u64 0, .slice none 0 0, .slice none 0 0, .int .i64 0] 27)) x0.heap.size (.int .i64 0) (.string ⟨#[]⟩) (.int .u64 0) (.slice none 0 0) (.slice none 0 0) (.int .i64 0) := heap_alloc_new x0 _
      generalize x0.alloc (.cells #[.int .i64 0, .string ⟨#[]⟩, .int .u64 0, .slice none 0 0, .slice none 0 0, .int .i64 0] 27) = x15 at *
      generalize x0.heap.size = q at *
      refine hKK _ _ ⟨fun _ => m15.S, ?_⟩
      clear hKK
      try simp only [Act.put, List.setIfInBounds_toArray, List.set_cons_zero, List.set_cons_succ]
      refine wpT_one (i := 1) (by kernel_rfl) rfl ?_
      intro KK hKK
      go_simp
      refine (HPK.out _).mono ?_
      rintro e x16 ⟨rfl, b16⟩
      have m16 := m15.step b16
      have s16 := s15.step b16
      refine hKK _ _ ⟨fun _ => m16.S, ?_⟩
      clear hKK b16
      try simp only [Act.put, List.setIfInBounds_toArray, List.set_cons_zero, List.set_cons_succ]
      refine wpT_one (i := 2) (by kernel_rfl) rfl ?_
      intro KK hKK
      go_simp
      refine (kindOf_any _ _).mono ?_
      rintro e wn ⟨rfl, rfl⟩
      rw [HKI.out]
      refine hKK _ _ ⟨fun _ => m16.S, ?_⟩
      clear hKK
      try simp only [Act.put, List.setIfInBounds_toArray, List.set_cons_zero, List.set_cons_succ]
      refine wpT_one (i := 4) (by kernel_rfl) rfl ?_
      intro KK hKK
      go_simp
      refine (HAT.out _).mono ?_
      rintro e x18 ⟨rfl, b18⟩
      have m18 := m16.step b18
      have s18 := s16.step b18
      refine hKK _ _ ⟨fun _ => m18.S, ?_⟩
      clear hKK b18
      try simp only [Act.put, List.setIfInBounds_toArray, List.set_cons_zero, List.set_cons_succ]
      refine wpT_one (i := 5) (by kernel_rfl) rfl ?_
      intro KK hKK
      go_simp
      refine hKK _ _ ⟨fun _ => m18.S, ?_⟩
      clear hKK
      try simp only [Act.put, List.setIfInBounds_toArray, List.set_cons_zero, List.set_cons_succ]
      refine wpT_tail 7 1 rfl rfl (by kernel_rfl) (by kernel_rfl) ?_
      have hvs := m18.val s18 hq15
      obtain ⟨z0, z1, z2, z3, z4, z5⟩ := hvs.val.cells
      have zf := hvs.val.fz
      have HVS := Lib.hid (hvs.put6 (.int .i64 K) (.string ⟨#[]⟩) (.int .u64 0) (.slice none 0 0) (.slice none 0 0) (.int .i64 p))
      unfold set6 at HVS
      clear hvs hS0
      go_wp2_with fail
      go_meet
      exact ⟨_, rfl, HVS.out⟩
  case rest =>
    obtain ⟨q, rfl, hvs⟩ := hcut
    obtain ⟨c0, c1, c2, c3, c4, c5⟩ := hvs.val.cells
    obtain ⟨-, o0, o1, of⟩ := hvs.own.1
    have HVS := Lib.hid hvs
    have hpp := hsk.2
    clear HM hvs w1 w2 wd
    have HHO := Lib.hid (fun w => holds_any K ⟨#[]⟩ 0 none 0 0 none 0 0 p w)
    have HGW := Lib.hid (HG.out.below HVS.out.below)
    rcases kind_cases (byteI s p) with ⟨ho, hkind⟩ | ⟨ho, hkind⟩
    · have hK : ¬ (K = 5 ∨ K = 6) := by rw [← HKI.out]; rcases hkind with h | h | h | h | h <;> omega
      rw [decide_eq_false hK] at HHO
      have HOP := Lib.hid ho
      have HKIND := Lib.hid hkind
      clear ho hkind hK
      go_wp2_with fail
      refine (HHO.out _).mono ?_
      rintro e w3 ⟨rfl, b3⟩
      have HVS3 := Lib.hid (HVS.out.step b3)
      have HGW3 := Lib.hid (HGW.out.below b3)
      clear c0 c1 c2 c3 c4 c5 o0 o1 of HVS HGW b3 HHO
      obtain ⟨c0, c1, c2, c3, c4, c5⟩ := HVS3.out.val.cells
      obtain ⟨-, o0, o1, of⟩ := HVS3.out.own.1
      have cf := HVS3.out.val.fz
      go_upto_block 0 with fail
      go_cut [8] (fun v8 wx => VEnd w s d p q v8 wx)
      case first =>
        rcases HKIND.out with hk | hk | hk | hk | hk
        · obtain ⟨hk, hb⟩ := hk
          have HC := Lib.hid (fun w => word_v s d p 0 ⟨#[110, 117, 108, 108]⟩ hs hpp (by decide) (by unfold leafR; simp [hb]) HOP.out w)
          rw [HKI.out] at hk
          subst hk
          clear hb
          go_wp2_with fail
          refine (HC.out _).mono ?_
          rintro e w5 (⟨j, rfl, hj, hv, b5⟩ | ⟨ec, ea, fb, rfl, hj, hv, hf, b5⟩)
          · have HE := Lib.hid (vend_word HVS3.out b5 hj hv)
            obtain ⟨-, o0, o1, of⟩ := (HVS3.out.step b5).own.1
            clear hv b5
            go_wp2_with fail
            go_meet
            exact HE.out
          · have HE := Lib.hid (vend_er HVS3.out b5 hf hv hj)
            obtain ⟨-, o0, o1, of⟩ := (HVS3.out.step b5).own.1
            clear hv b5 hf
            unfold pf at HE ⊢
            go_wp2_with fail
            go_meet
            exact HE.out
        · obtain ⟨hk, hb⟩ := hk
          have HC := Lib.hid (fun w => word_v s d p 1 ⟨#[102, 97, 108, 115, 101]⟩ hs hpp (by decide) (by unfold leafR; simp [hb]) HOP.out w)
          rw [HKI.out] at hk
          subst hk
          clear hb
          go_wp2_with fail
          refine (HC.out _).mono ?_
          rintro e w5 (⟨j, rfl, hj, hv, b5⟩ | ⟨ec, ea, fb, rfl, hj, hv, hf, b5⟩)
          · have HE := Lib.hid (vend_word HVS3.out b5 hj hv)
            obtain ⟨-, o0, o1, of⟩ := (HVS3.out.step b5).own.1
            clear hv b5
            go_wp2_with fail
            go_meet
            exact HE.out
          · have HE := Lib.hid (vend_er HVS3.out b5 hf hv hj)
            obtain ⟨-, o0, o1, of⟩ := (HVS3.out.step b5).own.1
            clear hv b5 hf
            unfold pf at HE ⊢
            go_wp2_with fail
            go_meet
            exact HE.out
        · obtain ⟨hk, hb⟩ := hk
          have HC := Lib.hid (fun w => word_v s d p 2 ⟨#[116, 114, 117, 101]⟩ hs hpp (by decide) (by unfold leafR; simp [hb]) HOP.out w)
          rw [HKI.out] at hk
          subst hk
          clear hb
          go_wp2_with fail
          refine (HC.out _).mono ?_
          rintro e w5 (⟨j, rfl, hj, hv, b5⟩ | ⟨ec, ea, fb, rfl, hj, hv, hf, b5⟩)
          · have HE := Lib.hid (vend_word HVS3.out b5 hj hv)
            obtain ⟨-, o0, o1, of⟩ := (HVS3.out.step b5).own.1
            clear hv b5
            go_wp2_with fail
            go_meet
            exact HE.out
          · have HE := Lib.hid (vend_er HVS3.out b5 hf hv hj)
            obtain ⟨-, o0, o1, of⟩ := (HVS3.out.step b5).own.1
            clear hv b5 hf
            unfold pf at HE ⊢
            go_wp2_with fail
            go_meet
            exact HE.out
        · obtain ⟨hk, hb⟩ := hk
          have HC := Lib.hid (num_v s d p hs hpp hb HOP.out w3 HGW3.out)
          rw [HKI.out] at hk
          subst hk
          clear hb
          go_wp2_with fail
          refine HC.out.mono ?_
          rintro e w5 (⟨j, n, rfl, hj, hv, b5⟩ | ⟨ec, ea, fb, j, n, rfl, hj, hv, hf, b5⟩)
          · have HE := Lib.hid (vend_num HVS3.out b5 n hj hv)
            obtain ⟨-, o0, o1, of⟩ := (HVS3.out.step b5).own.1
            obtain ⟨c0, c1, c2, c3, c4, c5⟩ := (HVS3.out.step b5).val.cells
            have cf := (HVS3.out.step b5).val.fz
            have hqw : q ≠ w.heap.size := by have := HVS3.out.at'; omega
            clear hv b5
            go_wp2_with fail
            go_meet
            exact HE.out
          · have HE := Lib.hid (vend_er2 HVS3.out b5 hf hv n hj)
            obtain ⟨-, o0, o1, of⟩ := (HVS3.out.step b5).own.1
            obtain ⟨c0, c1, c2, c3, c4, c5⟩ := (HVS3.out.step b5).val.cells
            have cf := (HVS3.out.step b5).val.fz
            have hqw : q ≠ w.heap.size := by have := HVS3.out.at'; omega
            clear hv b5 hf
            unfold pf at HE ⊢
            go_wp2_with fail
            go_meet
            exact HE.out
        · obtain ⟨hk, hb⟩ := hk
          have HC := Lib.hid (fun w => text_v s d p hs hpp hb HOP.out w)
          rw [HKI.out] at hk
          subst hk
          clear hb
          go_wp2_with fail
          refine (HC.out _).mono ?_
          rintro e w5 (⟨j, t, rfl, hj, hv, b5⟩ | ⟨ec, ea, fb, j, rfl, hj, hv, hf, b5⟩)
          · have HE := Lib.hid (vend_text HVS3.out b5 t hj hv)
            obtain ⟨-, o0, o1, of⟩ := (HVS3.out.step b5).own.1
            obtain ⟨c0, c1, c2, c3, c4, c5⟩ := (HVS3.out.step b5).val.cells
            have cf := (HVS3.out.step b5).val.fz
            have hqw : q ≠ w.heap.size := by have := HVS3.out.at'; omega
            clear hv b5
            go_wp2_with fail
            go_meet
            exact HE.out
          · have HE := Lib.hid (vend_er1 HVS3.out b5 hf hv ⟨#[]⟩ hj)
            obtain ⟨-, o0, o1, of⟩ := (HVS3.out.step b5).own.1
            obtain ⟨c0, c1, c2, c3, c4, c5⟩ := (HVS3.out.step b5).val.cells
            have cf := (HVS3.out.step b5).val.fz
            have hqw : q ≠ w.heap.size := by have := HVS3.out.at'; omega
            clear hv b5 hf
            unfold pf at HE ⊢
            go_wp2_with fail
            go_meet
            exact HE.out
      case rest =>
        rcases hcut with ⟨j, x, k, t, n, a, l, c, a', l', c', z, rfl, hj, hv, hvs, hx⟩ | ⟨ec, ea, fb, j, k, t, n, a, l, c, a', l', c', z, rfl, hj, hv, hf, hvs⟩
        · have HVE := Lib.hid hvs
          have HVV := Lib.hid hv
          have HX := Lib.hid hx
          clear hvs hv hx c0 c1 c2 c3 c4 c5 o0 o1 of cf HVS3 HGW3
          have HSJ := Lib.hid (fun w => skip_any s j hs hj w)
          have hsj : runTo isBl s j = sk s j := rfl
          rw [hsj] at HSJ
          clear hsj
          go_upto_region 21 with fail
          have hv := HVE.out.step (Below.drew (Below.refl _ _))
          have b01 : Below wc.heap.size wc wc.drew := Below.drew (Below.refl _ _)
          have hx := HX.out.step b01
          clear b01
          have hn1 : w.heap.size + 1 ≠ w.heap.size ∧ w.heap.size + 1 ≠ q := ⟨by omega, by have := hv.at'; omega⟩
          have hn2 : w.heap.size + 2 ≠ w.heap.size ∧ w.heap.size + 2 ≠ q := ⟨by omega, by have := hv.at'; omega⟩
          have HN1 := Lib.hid hn1
          have HN2 := Lib.hid hn2
          clear hn1 hn2
          refine region_T (S8 w.heap.size q (.string s) (.int .i64 (j : Nat)) (.int .i64 k) (.string t) (.int .u64 n) (.slice a l c) (.slice a' l' c') (.int .i64 z)) 6 (by kernel_rfl) ?_
          generalize wc.drew = w5 at *
          have hS0 := hv.S8
          refine wpT_take (i := 0) (v := .agg #[.string s, .int .i64 (j : Nat)]) rfl (by kernel_rfl) (by kernel_rfl) (by kernel_rfl) (by kernel_rfl) (by kernel_rfl) (by kernel_rfl) (by kernel_rfl) (by kernel_rfl) (fun _ _ _ h => h) (Or.inl ⟨by rfl, ?_⟩) hS0 ?_
          · intro w' h
            obtain ⟨h0, h1, h2, h3, h4, h5, h6, h7⟩ := h
            go_simp
          try simp only [Act.put, List.setIfInBounds_toArray, List.set_cons_zero, List.set_cons_succ]
          refine wpT_take (i := 2) (v := .agg #[.int .i64 k, .string t, .int .u64 n, .slice a l c, .slice a' l' c', .int .i64 z]) rfl (by kernel_rfl) (by kernel_rfl) (by kernel_rfl) (by kernel_rfl) (by kernel_rfl) (by kernel_rfl) (by kernel_rfl) (by kernel_rfl) (fun _ _ _ h => h) (Or.inl ⟨by rfl, ?_⟩) hS0 ?_
          · intro w' h
            obtain ⟨h0, h1, h2, h3, h4, h5, h6, h7⟩ := h
            go_simp
          try simp only [Act.put, List.setIfInBounds_toArray, List.set_cons_zero, List.set_cons_succ]
          refine wpT_take (i := 3) (v := .nilIface) rfl (by kernel_rfl) (by kernel_rfl) (by kernel_rfl) (by kernel_rfl) (by kernel_rfl) (by kernel_rfl) (by kernel_rfl) (by kernel_rfl) (fun _ _ _ h => h) (Or.inl ⟨by rfl, ?_⟩) hS0 ?_
          · intro w' _
            go_simp
          try simp only [Act.put, List.setIfInBounds_toArray, List.set_cons_zero, List.set_cons_succ]
          refine wpT_one (i := 1) (by kernel_rfl) rfl ?_
          intro KK hKK
          go_simp
          refine (HSJ.out _).mono ?_
          rintro e w6 ⟨rfl, b6⟩
          replace hv := hv.step b6
          replace hx := hx.step b6
          refine hKK _ _ ⟨fun _ => hv.S8, ?_⟩
          clear hKK hS0 b6
          try simp only [Act.put, List.setIfInBounds_toArray, List.set_cons_zero, List.set_cons_succ]
          have r0 := hv.res.1.2.1
          have r1 := hv.res.1.2.2.1
          have rf := hv.res.1.2.2.2
          refine wpT_one (i := 4) (by kernel_rfl) rfl ?_
          intro KK hKK
          go_simp
          refine hKK _ _ ⟨fun _ => (hv.S8.put 0 _ HN1.out).put 1 _ HN1.out, ?_⟩
          clear hKK r0 r1 rf
          try simp only [Act.put, List.setIfInBounds_toArray, List.set_cons_zero, List.set_cons_succ]
          have h7 := hv.rv.far (q := ⟨w.heap.size + 1, 0, none⟩) (by show _ ≠ w.heap.size + 1; omega) (.string s)
          have h8 := h7.far (q := ⟨w.heap.size + 1, 1, none⟩) (by show _ ≠ w.heap.size + 1; omega) (.int .i64 (sk s j : Nat))
          have S7 := (hv.S8.put 0 (.string s) HN1.out).put 1 (.int .i64 (sk s j : Nat)) HN1.out
          have HOUT := Lib.hid (hv.out (sk s j : Nat))
          have HV6 := Lib.hid hv
          clear h7 hv
          generalize (w6.setCell ⟨w.heap.size + 1, 0, none⟩ (.string s)).setCell ⟨w.heap.size + 1, 1, none⟩ (.int .i64 (sk s j : Nat)) = w7 at h8 S7 HOUT ⊢
          have h9 : SixAt w7 (w.heap.size + 1 + 1) _ _ _ _ _ _ := h8
          obtain ⟨t0, t1, t2, t3, t4, t5⟩ := h9.cells
          have tf := h9.fz
          clear h9
          clear h8
          refine wpT_one (i := 5) (by kernel_rfl) rfl ?_
          intro KK hKK
          go_simp
          refine hKK _ _ ⟨fun _ => (((((S7.put 0 _ HN2.out).put 1 _ HN2.out).put 2 _ HN2.out).put 3 _ HN2.out).put 4 _ HN2.out).put 5 _ HN2.out, ?_⟩
          clear hKK t0 t1 t2 t3 t4 t5 tf S7
          try simp only [Act.put, List.setIfInBounds_toArray, List.set_cons_zero, List.set_cons_succ]
          refine wpT_tail 6 1 rfl rfl (by kernel_rfl) (by kernel_rfl) ?_
          generalize hwG : (((((w7.setCell ⟨w.heap.size + 1 + 1, 0, none⟩ (.int .i64 k)).setCell ⟨w.heap.size + 1 + 1, 1, none⟩ (.string t)).setCell ⟨w.heap.size + 1 + 1, 2, none⟩ (.int .u64 n)).setCell ⟨w.heap.size + 1 + 1, 3, none⟩ (.slice a l c)).setCell ⟨w.heap.size + 1 + 1, 4, none⟩ (.slice a' l' c')).setCell ⟨w.heap.size + 1 + 1, 5, none⟩ (.int .i64 z) = wG
          have hwF : set6 w7 (w.heap.size + 2) 0 (.int .i64 k) (.string t) (.int .u64 n) (.slice a l c) (.slice a' l' c') (.int .i64 z) = wG := hwG
          rw [hwF] at HOUT
          clear hwG hwF
          go_wp2_with fail
          obtain ⟨hs1, hs2, hs3, hs4⟩ := HOUT.out
          obtain ⟨-, g0, g1, -⟩ := hs1.1
          obtain ⟨t0, t1, t2, t3, t4, t5⟩ := hs2.cells
          have HX6 := Lib.hid hx
          exact bodyPost_ret (v := .tuple #[.agg #[.string s, .int .i64 (sk s j : Nat)], .agg #[.int .i64 k, .string t, .int .u64 n, .slice a l c, .slice a' l' c', .int .i64 z], .nilIface]) (by simp [results, Tryz.results28, go_sem, g0, g1, t0, t1, t2, t3, t4, t5]) rfl (.inl ⟨j, x, k, t, n, a, l, c, a', l', c', z, by rw [HP.out]; exact HVV.out, rfl, HX6.out.move hs4.size (fun q' h1 h2 => ⟨by have := h1.1; omega, hs4.block q' h2 (by have := h1.1; rintro (e | e) <;> omega)⟩), hs3⟩)
        · have HVE := Lib.hid hvs
          have HVV := Lib.hid hv
          have HF := Lib.hid hf
          clear hvs hv hf c0 c1 c2 c3 c4 c5 o0 o1 of cf HVS3 HGW3
          unfold pf
          have HSJ := Lib.hid (fun w => skip_any s j hs hj w)
          have hsj : runTo isBl s j = sk s j := rfl
          rw [hsj] at HSJ
          clear hsj
          go_upto_region 21 with fail
          have hv := HVE.out.step (Below.drew (Below.refl _ _))
          have b01 : Below wc.heap.size wc wc.drew := Below.drew (Below.refl _ _)
          have hx := HF.out.keep b01
          clear b01
          have hn1 : w.heap.size + 1 ≠ w.heap.size ∧ w.heap.size + 1 ≠ q := ⟨by omega, by have := hv.at'; omega⟩
          have hn2 : w.heap.size + 2 ≠ w.heap.size ∧ w.heap.size + 2 ≠ q := ⟨by omega, by have := hv.at'; omega⟩
          have HN1 := Lib.hid hn1
          have HN2 := Lib.hid hn2
          clear hn1 hn2
          refine region_T (S8 w.heap.size q (.string s) (.int .i64 (j : Nat)) (.int .i64 k) (.string t) (.int .u64 n) (.slice a l c) (.slice a' l' c') (.int .i64 z)) 6 (by kernel_rfl) ?_
          generalize wc.drew = w5 at *
          have hS0 := hv.S8
          refine wpT_take (i := 0) (v := .agg #[.string s, .int .i64 (j : Nat)]) rfl (by kernel_rfl) (by kernel_rfl) (by kernel_rfl) (by kernel_rfl) (by kernel_rfl) (by kernel_rfl) (by kernel_rfl) (by kernel_rfl) (fun _ _ _ h => h) (Or.inl ⟨by rfl, ?_⟩) hS0 ?_
          · intro w' h
            obtain ⟨h0, h1, h2, h3, h4, h5, h6, h7⟩ := h
            go_simp
          try simp only [Act.put, List.setIfInBounds_toArray, List.set_cons_zero, List.set_cons_succ]
          refine wpT_take (i := 2) (v := .agg #[.int .i64 k, .string t, .int .u64 n, .slice a l c, .slice a' l' c', .int .i64 z]) rfl (by kernel_rfl) (by kernel_rfl) (by kernel_rfl) (by kernel_rfl) (by kernel_rfl) (by kernel_rfl) (by kernel_rfl) (by kernel_rfl) (fun _ _ _ h => h) (Or.inl ⟨by rfl, ?_⟩) hS0 ?_
          · intro w' h
            obtain ⟨h0, h1, h2, h3, h4, h5, h6, h7⟩ := h
            go_simp
          try simp only [Act.put, List.setIfInBounds_toArray, List.set_cons_zero, List.set_cons_succ]
          refine wpT_take (i := 3) (v := .iface 100 (.pointer (some ⟨fb, 0, none⟩))) rfl (by kernel_rfl) (by kernel_rfl) (by kernel_rfl) (by kernel_rfl) (by kernel_rfl) (by kernel_rfl) (by kernel_rfl) (by kernel_rfl) (fun _ _ _ h => h) (Or.inl ⟨by rfl, ?_⟩) hS0 ?_
          · intro w' _
            go_simp
          try simp only [Act.put, List.setIfInBounds_toArray, List.set_cons_zero, List.set_cons_succ]
          refine wpT_one (i := 1) (by kernel_rfl) rfl ?_
          intro KK hKK
          go_simp
          refine (HSJ.out _).mono ?_
          rintro e w6 ⟨rfl, b6⟩
          replace hv := hv.step b6
          replace hx := hx.keep b6
          refine hKK _ _ ⟨fun _ => hv.S8, ?_⟩
          clear hKK hS0 b6
          try simp only [Act.put, List.setIfInBounds_toArray, List.set_cons_zero, List.set_cons_succ]
          have r0 := hv.res.1.2.1
          have r1 := hv.res.1.2.2.1
          have rf := hv.res.1.2.2.2
          refine wpT_one (i := 4) (by kernel_rfl) rfl ?_
          intro KK hKK
          go_simp
          refine hKK _ _ ⟨fun _ => (hv.S8.put 0 _ HN1.out).put 1 _ HN1.out, ?_⟩
          clear hKK r0 r1 rf
          try simp only [Act.put, List.setIfInBounds_toArray, List.set_cons_zero, List.set_cons_succ]
          have h7 := hv.rv.far (q := ⟨w.heap.size + 1, 0, none⟩) (by show _ ≠ w.heap.size + 1; omega) (.string s)
          have h8 := h7.far (q := ⟨w.heap.size + 1, 1, none⟩) (by show _ ≠ w.heap.size + 1; omega) (.int .i64 (sk s j : Nat))
          have S7 := (hv.S8.put 0 (.string s) HN1.out).put 1 (.int .i64 (sk s j : Nat)) HN1.out
          have HOUT := Lib.hid (hv.out (sk s j : Nat))
          have HV6 := Lib.hid hv
          clear h7 hv
          generalize (w6.setCell ⟨w.heap.size + 1, 0, none⟩ (.string s)).setCell ⟨w.heap.size + 1, 1, none⟩ (.int .i64 (sk s j : Nat)) = w7 at h8 S7 HOUT ⊢
          have h9 : SixAt w7 (w.heap.size + 1 + 1) _ _ _ _ _ _ := h8
          obtain ⟨t0, t1, t2, t3, t4, t5⟩ := h9.cells
          have tf := h9.fz
          clear h9
          clear h8
          refine wpT_one (i := 5) (by kernel_rfl) rfl ?_
          intro KK hKK
          go_simp
          refine hKK _ _ ⟨fun _ => (((((S7.put 0 _ HN2.out).put 1 _ HN2.out).put 2 _ HN2.out).put 3 _ HN2.out).put 4 _ HN2.out).put 5 _ HN2.out, ?_⟩
          clear hKK t0 t1 t2 t3 t4 t5 tf S7
          try simp only [Act.put, List.setIfInBounds_toArray, List.set_cons_zero, List.set_cons_succ]
          refine wpT_tail 6 1 rfl rfl (by kernel_rfl) (by kernel_rfl) ?_
          generalize hwG : (((((w7.setCell ⟨w.heap.size + 1 + 1, 0, none⟩ (.int .i64 k)).setCell ⟨w.heap.size + 1 + 1, 1, none⟩ (.string t)).setCell ⟨w.heap.size + 1 + 1, 2, none⟩ (.int .u64 n)).setCell ⟨w.heap.size + 1 + 1, 3, none⟩ (.slice a l c)).setCell ⟨w.heap.size + 1 + 1, 4, none⟩ (.slice a' l' c')).setCell ⟨w.heap.size + 1 + 1, 5, none⟩ (.int .i64 z) = wG
          have hwF : set6 w7 (w.heap.size + 2) 0 (.int .i64 k) (.string t) (.int .u64 n) (.slice a l c) (.slice a' l' c') (.int .i64 z) = wG := hwG
          rw [hwF] at HOUT
          clear hwG hwF
          go_wp2_with fail
          obtain ⟨hs1, hs2, hs3, hs4⟩ := HOUT.out
          obtain ⟨-, g0, g1, -⟩ := hs1.1
          obtain ⟨t0, t1, t2, t3, t4, t5⟩ := hs2.cells
          have HF6 := Lib.hid hx
          exact bodyPost_ret (v := .tuple #[.agg #[.string s, .int .i64 (sk s j : Nat)], .agg #[.int .i64 k, .string t, .int .u64 n, .slice a l c, .slice a' l' c', .int .i64 z], pf fb]) (by simp [results, Tryz.results28, go_sem, g0, g1, t0, t1, t2, t3, t4, t5, pf]) rfl (.inr ⟨ec, ea, fb, sk s j, k, t, n, a, l, c, a', l', c', z, by rw [HP.out]; exact HVV.out, (sk_le s j hj).2, rfl, HF6.out.block hs4.size (hs4.block fb HF6.out.parts.2.1 (by
            have h1 := HV6.out.rv.fault HF6.out (fun z e => by cases e)
            have h2 : fb ≠ w.heap.size + 1 := by
              rintro rfl
              have e := HF6.out.parts.2.2.1
              rw [HV6.out.res.1.2.1] at e
              cases e
            rintro (e | e) <;> omega)), hs3⟩)
    · have hK : (K = 5 ∨ K = 6) := by rw [← HKI.out]; rcases hkind with h | h <;> omega
      rw [decide_eq_true hK] at HHO
      have HOP := Lib.hid ho
      have HKIND := Lib.hid hkind
      clear ho hkind hK
      rcases Nat.lt_or_ge d 64 with hd | hd
      · have hV1 := HV.out hd
        have HV1 := Lib.hid hV1
        have HDL := Lib.hid hd
        have hd' : ¬ (64 : Int) ≤ d := by omega
        clear hV1 hd HV
        go_wp2_with fail
        refine (HHO.out _).mono ?_
        rintro e w3 ⟨rfl, b3⟩
        have HVS3 := Lib.hid (HVS.out.step b3)
        have HGW3 := Lib.hid (HGW.out.below b3)
        clear c0 c1 c2 c3 c4 c5 o0 o1 of HVS HGW b3 HHO
        obtain ⟨c0, c1, c2, c3, c4, c5⟩ := HVS3.out.val.cells
        obtain ⟨-, o0, o1, of⟩ := HVS3.out.own.1
        have cf := HVS3.out.val.fz
        go_upto_block 0 with fail
        go_cut [8] (fun v8 wx => VEnd w s d p q v8 wx)
        case first =>
          rcases HKIND.out with hk | hk
          · obtain ⟨hk, hb⟩ := hk
            have HC := Lib.hid (array_any s (d + 1) p hs hb HV1.out w3 HGW3.out)
            have HW : Hid (∀ o, RowRel s (d + 1) 91 p o → V s d p (o.wrap 91 p)) := Lib.hid (fun o h => by have := RowRel.val (s := s) (d := d) (k := p) (o := o) (by rw [hb]; exact h) HOP.out HDL.out; rwa [hb] at this)
            rw [HKI.out] at hk
            subst hk
            clear hb
            go_wp2_with fail
            refine HC.out.mono ?_
            rintro e w5 (⟨j, vs, ks, a, c, xs, hrel, rfl, hrow, hval, b5⟩ | ⟨ec, ea, fb, j, a, l, c, hrel, hj, rfl, hf, b5⟩)
            · have hv := HW.out _ hrel
              have HE := Lib.hid (vend_arr (K := 5) HVS3.out b5 hrow hval (V.fits hpp hv).2 hv)
              obtain ⟨-, o0, o1, of⟩ := (HVS3.out.step b5).own.1
              obtain ⟨c0, c1, c2, c3, c4, c5⟩ := (HVS3.out.step b5).val.cells
              have cf := (HVS3.out.step b5).val.fz
              have hqw : q ≠ w.heap.size := by have := HVS3.out.at'; omega
              clear hv b5 hrel hrow hval
              go_wp2_with fail
              go_meet
              exact HE.out
            · have hv := HW.out _ hrel
              have HE := Lib.hid (vend_er3 HVS3.out b5 hf hv a l c hj)
              obtain ⟨-, o0, o1, of⟩ := (HVS3.out.step b5).own.1
              obtain ⟨c0, c1, c2, c3, c4, c5⟩ := (HVS3.out.step b5).val.cells
              have cf := (HVS3.out.step b5).val.fz
              have hqw : q ≠ w.heap.size := by have := HVS3.out.at'; omega
              clear hv b5 hf hrel
              unfold pf at HE ⊢
              go_wp2_with fail
              go_meet
              exact HE.out
          · obtain ⟨hk, hb⟩ := hk
            have HC := Lib.hid (object_any s (d + 1) p hs hb HV1.out w3 HGW3.out)
            have HW : Hid (∀ o, RowRel s (d + 1) 123 p o → V s d p (o.wrap 123 p)) := Lib.hid (fun o h => by have := RowRel.val (s := s) (d := d) (k := p) (o := o) (by rw [hb]; exact h) HOP.out HDL.out; rwa [hb] at this)
            rw [HKI.out] at hk
            subst hk
            clear hb
            go_wp2_with fail
            refine HC.out.mono ?_
            rintro e w5 (⟨j, vs, ks, a, c, b, c', xs, hrel, rfl, hrow, hkey, hval, b5⟩ | ⟨ec, ea, fb, j, a, l, c, b, l', c', hrel, hj, rfl, hf, b5⟩)
            · have hv := HW.out _ hrel
              have HE := Lib.hid (vend_obj (K := 6) HVS3.out b5 hrow hkey hval (V.fits hpp hv).2 hv)
              obtain ⟨-, o0, o1, of⟩ := (HVS3.out.step b5).own.1
              obtain ⟨d0, d1, d2, d3, d4, d5⟩ := (HVS3.out.step b5).val.cells
              have cf := (HVS3.out.step b5).val.fz
              have hqw : q ≠ w.heap.size := by have := HVS3.out.at'; omega
              clear hv b5 hrel hrow hkey hval
              go_wp2_with fail
              go_meet
              exact HE.out
            · have hv := HW.out _ hrel
              have HE := Lib.hid (vend_er4 HVS3.out b5 hf hv b l' c' a l c hj)
              obtain ⟨-, o0, o1, of⟩ := (HVS3.out.step b5).own.1
              obtain ⟨d0, d1, d2, d3, d4, d5⟩ := (HVS3.out.step b5).val.cells
              have cf := (HVS3.out.step b5).val.fz
              have hqw : q ≠ w.heap.size := by have := HVS3.out.at'; omega
              clear hv b5 hf hrel
              unfold pf at HE ⊢
              go_wp2_with fail
              go_meet
              exact HE.out
        case rest =>
          rcases hcut with ⟨j, x, k, t, n, a, l, c, a', l', c', z, rfl, hj, hv, hvs, hx⟩ | ⟨ec, ea, fb, j, k, t, n, a, l, c, a', l', c', z, rfl, hj, hv, hf, hvs⟩
          · have HVE := Lib.hid hvs
            have HVV := Lib.hid hv
            have HX := Lib.hid hx
            clear hvs hv hx c0 c1 c2 c3 c4 c5 o0 o1 of cf HVS3 HGW3
            have HSJ := Lib.hid (fun w => skip_any s j hs hj w)
            have hsj : runTo isBl s j = sk s j := rfl
            rw [hsj] at HSJ
            clear hsj
            go_upto_region 21 with fail
            have hv := HVE.out.step (Below.drew (Below.refl _ _))
            have b01 : Below wc.heap.size wc wc.drew := Below.drew (Below.refl _ _)
            have hx := HX.out.step b01
            clear b01
            have hn1 : w.heap.size + 1 ≠ w.heap.size ∧ w.heap.size + 1 ≠ q := ⟨by omega, by have := hv.at'; omega⟩
            have hn2 : w.heap.size + 2 ≠ w.heap.size ∧ w.heap.size + 2 ≠ q := ⟨by omega, by have := hv.at'; omega⟩
            have HN1 := Lib.hid hn1
            have HN2 := Lib.hid hn2
            clear hn1 hn2
            refine region_T (S8 w.heap.size q (.string s) (.int .i64 (j : Nat)) (.int .i64 k) (.string t) (.int .u64 n) (.slice a l c) (.slice a' l' c') (.int .i64 z)) 6 (by kernel_rfl) ?_
            generalize wc.drew = w5 at *
            have hS0 := hv.S8
            refine wpT_take (i := 0) (v := .agg #[.string s, .int .i64 (j : Nat)]) rfl (by kernel_rfl) (by kernel_rfl) (by kernel_rfl) (by kernel_rfl) (by kernel_rfl) (by kernel_rfl) (by kernel_rfl) (by kernel_rfl) (fun _ _ _ h => h) (Or.inl ⟨by rfl, ?_⟩) hS0 ?_
            · intro w' h
              obtain ⟨h0, h1, h2, h3, h4, h5, h6, h7⟩ := h
              go_simp
            try simp only [Act.put, List.setIfInBounds_toArray, List.set_cons_zero, List.set_cons_succ]
            refine wpT_take (i := 2) (v := .agg #[.int .i64 k, .string t, .int .u64 n, .slice a l c, .slice a' l' c', .int .i64 z]) rfl (by kernel_rfl) (by kernel_rfl) (by kernel_rfl) (by kernel_rfl) (by kernel_rfl) (by kernel_rfl) (by kernel_rfl) (by kernel_rfl) (fun _ _ _ h => h) (Or.inl ⟨by rfl, ?_⟩) hS0 ?_
            · intro w' h
              obtain ⟨h0, h1, h2, h3, h4, h5, h6, h7⟩ := h
              go_simp
            try simp only [Act.put, List.setIfInBounds_toArray, List.set_cons_zero, List.set_cons_succ]
            refine wpT_take (i := 3) (v := .nilIface) rfl (by kernel_rfl) (by kernel_rfl) (by kernel_rfl) (by kernel_rfl) (by kernel_rfl) (by kernel_rfl) (by kernel_rfl) (by kernel_rfl) (fun _ _ _ h => h) (Or.inl ⟨by rfl, ?_⟩) hS0 ?_
            · intro w' _
              go_simp
            try simp only [Act.put, List.setIfInBounds_toArray, List.set_cons_zero, List.set_cons_succ]
            refine wpT_one (i := 1) (by kernel_rfl) rfl ?_
            intro KK hKK
            go_simp
            refine (HSJ.out _).mono ?_
            rintro e w6 ⟨rfl, b6⟩
            replace hv := hv.step b6
            replace hx := hx.step b6
            refine hKK _ _ ⟨fun _ => hv.S8, ?_⟩
            clear hKK hS0 b6
            try simp only [Act.put, List.setIfInBounds_toArray, List.set_cons_zero, List.set_cons_succ]
            have r0 := hv.res.1.2.1
            have r1 := hv.res.1.2.2.1
            have rf := hv.res.1.2.2.2
            refine wpT_one (i := 4) (by kernel_rfl) rfl ?_
            intro KK hKK
            go_simp
            refine hKK _ _ ⟨fun _ => (hv.S8.put 0 _ HN1.out).put 1 _ HN1.out, ?_⟩
            clear hKK r0 r1 rf
            try simp only [Act.put, List.setIfInBounds_toArray, List.set_cons_zero, List.set_cons_succ]
            have h7 := hv.rv.far (q := ⟨w.heap.size + 1, 0, none⟩) (by show _ ≠ w.heap.size + 1; omega) (.string s)
            have h8 := h7.far (q := ⟨w.heap.size + 1, 1, none⟩) (by show _ ≠ w.heap.size + 1; omega) (.int .i64 (sk s j : Nat))
            have S7 := (hv.S8.put 0 (.string s) HN1.out).put 1 (.int .i64 (sk s j : Nat)) HN1.out
            have HOUT := Lib.hid (hv.out (sk s j : Nat))
            have HV6 := Lib.hid hv
            clear h7 hv
            generalize (w6.setCell ⟨w.heap.size + 1, 0, none⟩ (.string s)).setCell ⟨w.heap.size + 1, 1, none⟩ (.int .i64 (sk s j : Nat)) = w7 at h8 S7 HOUT ⊢
            have h9 : SixAt w7 (w.heap.size + 1 + 1) _ _ _ _ _ _ := h8
            obtain ⟨t0, t1, t2, t3, t4, t5⟩ := h9.cells
            have tf := h9.fz
            clear h9
            clear h8
            refine wpT_one (i := 5) (by kernel_rfl) rfl ?_
            intro KK hKK
            go_simp
            refine hKK _ _ ⟨fun _ => (((((S7.put 0 _ HN2.out).put 1 _ HN2.out).put 2 _ HN2.out).put 3 _ HN2.out).put 4 _ HN2.out).put 5 _ HN2.out, ?_⟩
            clear hKK t0 t1 t2 t3 t4 t5 tf S7
            try simp only [Act.put, List.setIfInBounds_toArray, List.set_cons_zero, List.set_cons_succ]
            refine wpT_tail 6 1 rfl rfl (by kernel_rfl) (by kernel_rfl) ?_
            generalize hwG : (((((w7.setCell ⟨w.heap.size + 1 + 1, 0, none⟩ (.int .i64 k)).setCell ⟨w.heap.size + 1 + 1, 1, none⟩ (.string t)).setCell ⟨w.heap.size + 1 + 1, 2, none⟩ (.int .u64 n)).setCell ⟨w.heap.size + 1 + 1, 3, none⟩ (.slice a l c)).setCell ⟨w.heap.size + 1 + 1, 4, none⟩ (.slice a' l' c')).setCell ⟨w.heap.size + 1 + 1, 5, none⟩ (.int .i64 z) = wG
            have hwF : set6 w7 (w.heap.size + 2) 0 (.int .i64 k) (.string t) (.int .u64 n) (.slice a l c) (.slice a' l' c') (.int .i64 z) = wG := hwG
            rw [hwF] at HOUT
            clear hwG hwF
            go_wp2_with fail
            obtain ⟨hs1, hs2, hs3, hs4⟩ := HOUT.out
            obtain ⟨-, g0, g1, -⟩ := hs1.1
            obtain ⟨t0, t1, t2, t3, t4, t5⟩ := hs2.cells
            have HX6 := Lib.hid hx
            exact bodyPost_ret (v := .tuple #[.agg #[.string s, .int .i64 (sk s j : Nat)], .agg #[.int .i64 k, .string t, .int .u64 n, .slice a l c, .slice a' l' c', .int .i64 z], .nilIface]) (by simp [results, Tryz.results28, go_sem, g0, g1, t0, t1, t2, t3, t4, t5]) rfl (.inl ⟨j, x, k, t, n, a, l, c, a', l', c', z, by rw [HP.out]; exact HVV.out, rfl, HX6.out.move hs4.size (fun q' h1 h2 => ⟨by have := h1.1; omega, hs4.block q' h2 (by have := h1.1; rintro (e | e) <;> omega)⟩), hs3⟩)
          · have HVE := Lib.hid hvs
            have HVV := Lib.hid hv
            have HF := Lib.hid hf
            clear hvs hv hf c0 c1 c2 c3 c4 c5 o0 o1 of cf HVS3 HGW3
            unfold pf
            have HSJ := Lib.hid (fun w => skip_any s j hs hj w)
            have hsj : runTo isBl s j = sk s j := rfl
            rw [hsj] at HSJ
            clear hsj
            go_upto_region 21 with fail
            have hv := HVE.out.step (Below.drew (Below.refl _ _))
            have b01 : Below wc.heap.size wc wc.drew := Below.drew (Below.refl _ _)
            have hx := HF.out.keep b01
            clear b01
            have hn1 : w.heap.size + 1 ≠ w.heap.size ∧ w.heap.size + 1 ≠ q := ⟨by omega, by have := hv.at'; omega⟩
            have hn2 : w.heap.size + 2 ≠ w.heap.size ∧ w.heap.size + 2 ≠ q := ⟨by omega, by have := hv.at'; omega⟩
            have HN1 := Lib.hid hn1
            have HN2 := Lib.hid hn2
            clear hn1 hn2
            refine region_T (S8 w.heap.size q (.string s) (.int .i64 (j : Nat)) (.int .i64 k) (.string t) (.int .u64 n) (.slice a l c) (.slice a' l' c') (.int .i64 z)) 6 (by kernel_rfl) ?_
            generalize wc.drew = w5 at *
            have hS0 := hv.S8
            refine wpT_take (i := 0) (v := .agg #[.string s, .int .i64 (j : Nat)]) rfl (by kernel_rfl) (by kernel_rfl) (by kernel_rfl) (by kernel_rfl) (by kernel_rfl) (by kernel_rfl) (by kernel_rfl) (by kernel_rfl) (fun _ _ _ h => h) (Or.inl ⟨by rfl, ?_⟩) hS0 ?_
            · intro w' h
              obtain ⟨h0, h1, h2, h3, h4, h5, h6, h7⟩ := h
              go_simp
            try simp only [Act.put, List.setIfInBounds_toArray, List.set_cons_zero, List.set_cons_succ]
            refine wpT_take (i := 2) (v := .agg #[.int .i64 k, .string t, .int .u64 n, .slice a l c, .slice a' l' c', .int .i64 z]) rfl (by kernel_rfl) (by kernel_rfl) (by kernel_rfl) (by kernel_rfl) (by kernel_rfl) (by kernel_rfl) (by kernel_rfl) (by kernel_rfl) (fun _ _ _ h => h) (Or.inl ⟨by rfl, ?_⟩) hS0 ?_
            · intro w' h
              obtain ⟨h0, h1, h2, h3, h4, h5, h6, h7⟩ := h
              go_simp
            try simp only [Act.put, List.setIfInBounds_toArray, List.set_cons_zero, List.set_cons_succ]
            refine wpT_take (i := 3) (v := .iface 100 (.pointer (some ⟨fb, 0, none⟩))) rfl (by kernel_rfl) (by kernel_rfl) (by kernel_rfl) (by kernel_rfl) (by kernel_rfl) (by kernel_rfl) (by kernel_rfl) (by kernel_rfl) (fun _ _ _ h => h) (Or.inl ⟨by rfl, ?_⟩) hS0 ?_
            · intro w' _
              go_simp
            try simp only [Act.put, List.setIfInBounds_toArray, List.set_cons_zero, List.set_cons_succ]
            refine wpT_one (i := 1) (by kernel_rfl) rfl ?_
            intro KK hKK
            go_simp
            refine (HSJ.out _).mono ?_
            rintro e w6 ⟨rfl, b6⟩
            replace hv := hv.step b6
            replace hx := hx.keep b6
            refine hKK _ _ ⟨fun _ => hv.S8, ?_⟩
            clear hKK hS0 b6
            try simp only [Act.put, List.setIfInBounds_toArray, List.set_cons_zero, List.set_cons_succ]
            have r0 := hv.res.1.2.1
            have r1 := hv.res.1.2.2.1
            have rf := hv.res.1.2.2.2
            refine wpT_one (i := 4) (by kernel_rfl) rfl ?_
            intro KK hKK
            go_simp
            refine hKK _ _ ⟨fun _ => (hv.S8.put 0 _ HN1.out).put 1 _ HN1.out, ?_⟩
            clear hKK r0 r1 rf
            try simp only [Act.put, List.setIfInBounds_toArray, List.set_cons_zero, List.set_cons_succ]
            have h7 := hv.rv.far (q := ⟨w.heap.size + 1, 0, none⟩) (by show _ ≠ w.heap.size + 1; omega) (.string s)
            have h8 := h7.far (q := ⟨w.heap.size + 1, 1, none⟩) (by show _ ≠ w.heap.size + 1; omega) (.int .i64 (sk s j : Nat))
            have S7 := (hv.S8.put 0 (.string s) HN1.out).put 1 (.int .i64 (sk s j : Nat)) HN1.out
            have HOUT := Lib.hid (hv.out (sk s j : Nat))
            have HV6 := Lib.hid hv
            clear h7 hv
            generalize (w6.setCell ⟨w.heap.size + 1, 0, none⟩ (.string s)).setCell ⟨w.heap.size + 1, 1, none⟩ (.int .i64 (sk s j : Nat)) = w7 at h8 S7 HOUT ⊢
            have h9 : SixAt w7 (w.heap.size + 1 + 1) _ _ _ _ _ _ := h8
            obtain ⟨t0, t1, t2, t3, t4, t5⟩ := h9.cells
            have tf := h9.fz
            clear h9
            clear h8
            refine wpT_one (i := 5) (by kernel_rfl) rfl ?_
            intro KK hKK
            go_simp
            refine hKK _ _ ⟨fun _ => (((((S7.put 0 _ HN2.out).put 1 _ HN2.out).put 2 _ HN2.out).put 3 _ HN2.out).put 4 _ HN2.out).put 5 _ HN2.out, ?_⟩
            clear hKK t0 t1 t2 t3 t4 t5 tf S7
            try simp only [Act.put, List.setIfInBounds_toArray, List.set_cons_zero, List.set_cons_succ]
            refine wpT_tail 6 1 rfl rfl (by kernel_rfl) (by kernel_rfl) ?_
            generalize hwG : (((((w7.setCell ⟨w.heap.size + 1 + 1, 0, none⟩ (.int .i64 k)).setCell ⟨w.heap.size + 1 + 1, 1, none⟩ (.string t)).setCell ⟨w.heap.size + 1 + 1, 2, none⟩ (.int .u64 n)).setCell ⟨w.heap.size + 1 + 1, 3, none⟩ (.slice a l c)).setCell ⟨w.heap.size + 1 + 1, 4, none⟩ (.slice a' l' c')).setCell ⟨w.heap.size + 1 + 1, 5, none⟩ (.int .i64 z) = wG
            have hwF : set6 w7 (w.heap.size + 2) 0 (.int .i64 k) (.string t) (.int .u64 n) (.slice a l c) (.slice a' l' c') (.int .i64 z) = wG := hwG
            rw [hwF] at HOUT
            clear hwG hwF
            go_wp2_with fail
            obtain ⟨hs1, hs2, hs3, hs4⟩ := HOUT.out
            obtain ⟨-, g0, g1, -⟩ := hs1.1
            obtain ⟨t0, t1, t2, t3, t4, t5⟩ := hs2.cells
            have HF6 := Lib.hid hx
            exact bodyPost_ret (v := .tuple #[.agg #[.string s, .int .i64 (sk s j : Nat)], .agg #[.int .i64 k, .string t, .int .u64 n, .slice a l c, .slice a' l' c', .int .i64 z], pf fb]) (by simp [results, Tryz.results28, go_sem, g0, g1, t0, t1, t2, t3, t4, t5, pf]) rfl (.inr ⟨ec, ea, fb, sk s j, k, t, n, a, l, c, a', l', c', z, by rw [HP.out]; exact HVV.out, (sk_le s j hj).2, rfl, HF6.out.block hs4.size (hs4.block fb HF6.out.parts.2.1 (by
              have h1 := HV6.out.rv.fault HF6.out (fun z e => by cases e)
              have h2 : fb ≠ w.heap.size + 1 := by
                rintro rfl
                have e := HF6.out.parts.2.2.1
                rw [HV6.out.res.1.2.1] at e
                cases e
              rintro (e | e) <;> omega)), hs3⟩)
      · have hd' : (64 : Int) ≤ d := by omega
        have HDG := Lib.hid hd
        clear hd HV
        go_wp2_with fail
        refine (HHO.out _).mono ?_
        rintro e w3 ⟨rfl, b3⟩
        have HVS3 := Lib.hid (HVS.out.step b3)
        clear c0 c1 c2 c3 c4 c5 o0 o1 of HVS HGW b3 HHO
        go_wp2_with fail
        have hv := HVS3.out.step (Below.drew (Below.refl _ _))
        have hn1 : w.heap.size + 1 ≠ w.heap.size ∧ w.heap.size + 1 ≠ q := ⟨by omega, by have := hv.at'; omega⟩
        have hn2 : w.heap.size + 2 ≠ w.heap.size ∧ w.heap.size + 2 ≠ q := ⟨by omega, by have := hv.at'; omega⟩
        have HN1 := Lib.hid hn1
        have HN2 := Lib.hid hn2
        clear hn1 hn2
        refine region_T (S8 w.heap.size q (.string s) (.int .i64 p) (.int .i64 K) (.string ⟨#[]⟩) (.int .u64 0) (.slice none 0 0) (.slice none 0 0) (.int .i64 p)) 7 (by kernel_rfl) ?_
        generalize w3.drew = w5 at *
        have hS0 := hv.S8
        refine wpT_take (i := 0) (v := .agg #[.string s, .int .i64 p]) rfl (by kernel_rfl) (by kernel_rfl) (by kernel_rfl) (by kernel_rfl) (by kernel_rfl) (by kernel_rfl) (by kernel_rfl) (by kernel_rfl) (fun _ _ _ h => h) (Or.inl ⟨by rfl, ?_⟩) hS0 ?_
        · intro w' h
          obtain ⟨h0, h1, h2, h3, h4, h5, h6, h7⟩ := h
          go_simp
        try simp only [Act.put, List.setIfInBounds_toArray, List.set_cons_zero, List.set_cons_succ]
        refine wpT_take (i := 1) (v := .agg #[.int .i64 K, .string ⟨#[]⟩, .int .u64 0, .slice none 0 0, .slice none 0 0, .int .i64 p]) rfl (by kernel_rfl) (by kernel_rfl) (by kernel_rfl) (by kernel_rfl) (by kernel_rfl) (by kernel_rfl) (by kernel_rfl) (by kernel_rfl) (fun _ _ _ h => h) (Or.inl ⟨by rfl, ?_⟩) hS0 ?_
        · intro w' h
          obtain ⟨h0, h1, h2, h3, h4, h5, h6, h7⟩ := h
          go_simp
        try simp only [Act.put, List.setIfInBounds_toArray, List.set_cons_zero, List.set_cons_succ]
        refine wpT_take (i := 2) (v := .pointer (some ⟨q, 5, none⟩)) rfl (by kernel_rfl) (by kernel_rfl) (by kernel_rfl) (by kernel_rfl) (by kernel_rfl) (by kernel_rfl) (by kernel_rfl) (by kernel_rfl) (fun _ _ _ h => h) (Or.inl ⟨by rfl, ?_⟩) hS0 ?_
        · intro w' _
          go_simp
        try simp only [Act.put, List.setIfInBounds_toArray, List.set_cons_zero, List.set_cons_succ]
        refine wpT_take (i := 3) (v := .int .i64 p) rfl (by kernel_rfl) (by kernel_rfl) (by kernel_rfl) (by kernel_rfl) (by kernel_rfl) (by kernel_rfl) (by kernel_rfl) (by kernel_rfl) (fun _ _ _ h => h) (Or.inl ⟨by rfl, ?_⟩) hS0 ?_
        · intro w' h
          obtain ⟨h0, h1, h2, h3, h4, h5, h6, h7⟩ := h
          go_simp
        try simp only [Act.put, List.setIfInBounds_toArray, List.set_cons_zero, List.set_cons_succ]
        refine wpT_one (i := 4) (by kernel_rfl) rfl ?_
        intro KK hKK
        go_simp
        refine (new_err 8 p (by decide) _).mono ?_
        rintro e w6 ⟨fb, rfl, hf, b6⟩
        replace hv := hv.step b6
        have HF6 := Lib.hid hf
        refine hKK _ _ ⟨fun _ => hv.S8, ?_⟩
        clear hKK hS0 b6 hf
        try simp only [Act.put, List.setIfInBounds_toArray, List.set_cons_zero, List.set_cons_succ]
        have r0 := hv.res.1.2.1
        have r1 := hv.res.1.2.2.1
        have rf := hv.res.1.2.2.2
        refine wpT_one (i := 5) (by kernel_rfl) rfl ?_
        intro KK hKK
        go_simp
        refine hKK _ _ ⟨fun _ => (hv.S8.put 0 _ HN1.out).put 1 _ HN1.out, ?_⟩
        clear hKK r0 r1 rf
        try simp only [Act.put, List.setIfInBounds_toArray, List.set_cons_zero, List.set_cons_succ]
        have h7 := hv.rv.far (q := ⟨w.heap.size + 1, 0, none⟩) (by show _ ≠ w.heap.size + 1; omega) (.string s)
        have h8 := h7.far (q := ⟨w.heap.size + 1, 1, none⟩) (by show _ ≠ w.heap.size + 1; omega) (.int .i64 p)
        have S7 := (hv.S8.put 0 (.string s) HN1.out).put 1 (.int .i64 p) HN1.out
        have HOUT := Lib.hid (hv.out p)
        have HV6 := Lib.hid hv
        clear h7 hv
        generalize (w6.setCell ⟨w.heap.size + 1, 0, none⟩ (.string s)).setCell ⟨w.heap.size + 1, 1, none⟩ (.int .i64 p) = w7 at h8 S7 HOUT ⊢
        have h9 : SixAt w7 (w.heap.size + 1 + 1) _ _ _ _ _ _ := h8
        obtain ⟨t0, t1, t2, t3, t4, t5⟩ := h9.cells
        have tf := h9.fz
        clear h9 h8
        refine wpT_one (i := 6) (by kernel_rfl) rfl ?_
        intro KK hKK
        go_simp
        refine hKK _ _ ⟨fun _ => (((((S7.put 0 _ HN2.out).put 1 _ HN2.out).put 2 _ HN2.out).put 3 _ HN2.out).put 4 _ HN2.out).put 5 _ HN2.out, ?_⟩
        clear hKK t0 t1 t2 t3 t4 t5 tf S7
        try simp only [Act.put, List.setIfInBounds_toArray, List.set_cons_zero, List.set_cons_succ]
        refine wpT_tail 7 1 rfl rfl (by kernel_rfl) (by kernel_rfl) ?_
        generalize hwG : (((((w7.setCell ⟨w.heap.size + 1 + 1, 0, none⟩ (.int .i64 K)).setCell ⟨w.heap.size + 1 + 1, 1, none⟩ (.string ⟨#[]⟩)).setCell ⟨w.heap.size + 1 + 1, 2, none⟩ (.int .u64 0)).setCell ⟨w.heap.size + 1 + 1, 3, none⟩ (.slice none 0 0)).setCell ⟨w.heap.size + 1 + 1, 4, none⟩ (.slice none 0 0)).setCell ⟨w.heap.size + 1 + 1, 5, none⟩ (.int .i64 p) = wG
        have hwF : set6 w7 (w.heap.size + 2) 0 (.int .i64 K) (.string ⟨#[]⟩) (.int .u64 0) (.slice none 0 0) (.slice none 0 0) (.int .i64 p) = wG := hwG
        rw [hwF] at HOUT
        clear hwG hwF
        go_wp2_with fail
        obtain ⟨hs1, hs2, hs3, hs4⟩ := HOUT.out
        obtain ⟨-, g0, g1, -⟩ := hs1.1
        obtain ⟨t0, t1, t2, t3, t4, t5⟩ := hs2.cells
        exact bodyPost_ret (v := .tuple #[.agg #[.string s, .int .i64 p], .agg #[.int .i64 K, .string ⟨#[]⟩, .int .u64 0, .slice none 0 0, .slice none 0 0, .int .i64 p], pf fb]) (by simp [results, Tryz.results28, go_sem, g0, g1, t0, t1, t2, t3, t4, t5, pf]) rfl (.inr ⟨8, p, fb, p, K, ⟨#[]⟩, 0, none, 0, 0, none, 0, 0, p, by rw [HP.out]; exact W.deep d p HOP.out HDG.out, hpp, rfl, HF6.out.block hs4.size (hs4.block fb HF6.out.parts.2.1 (by
          have h1 := HV6.out.rv.fault HF6.out (fun z e => by cases e)
          have h2 : fb ≠ w.heap.size + 1 := by
            rintro rfl
            have e := HF6.out.parts.2.2.1
            rw [HV6.out.res.1.2.1] at e
            cases e
          rintro (e | e) <;> omega)), hs3⟩)
end Go.Proofs.YtajmlkephefapaaGreatDoor
