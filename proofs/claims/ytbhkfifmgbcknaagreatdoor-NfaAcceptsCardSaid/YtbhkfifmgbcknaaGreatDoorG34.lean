/-
  A part of the proof of the statement NfaAccepts.
-/
import Derived.Test.YtbhkfifmgbcknaaGreatDoorG33
import Derived.Test.YtbhkfifmgbcknaaGreatDoorG03
import Derived.Test.YtbhkfifmgbcknaaGreatDoorG24
import Derived.Lib.OwnBridge
import Derived.Test.YtbhkfifmgbcknaaGreatDoorG04
import Derived.Test.YtbhkfifmgbcknaaGreatDoorG31
import Derived.Test.YtbhkfifmgbcknaaGreatDoorG07
import Derived.Test.YtbhkfifmgbcknaaGreatDoorG08
set_option linter.unusedSimpArgs false
set_option linter.unusedVariables false
namespace Go.Proofs.YtbhkfifmgbcknaaGreatDoor
open Go.RowKit Go.Extern.Stop Go.Stop Go.Extern Go.Shelf
attribute [local go_sem] Oper.semAt_some
def LeR (w : World) (vr vl : Value) (ls : List Lk) (n fa fb : Nat) (a to : Int) (Lb k : Nat) (Ds : List Nat) (W : World) : Prop :=
  ∃ (a1 b1 : Nat) (q : List (E Int)) (m : Int), LeI ls n (hasB fa fb) a to a1 b1 q ∧ k = q.length + remL ls (hasB fa fb) (hasI a1 b1) ∧ k ≤ 65 ∧ m + (remL ls (hasB fa fb) (hasI a1 b1) : Nat) ≤ 65 ∧ HpAt hencI 435 416 (Lb + 1) W q m ∧ SetAt W Lb a1 b1 ∧ LS w vr vl fa fb W ∧ MarksAt Ds w.heap.size W
theorem LksAt.blt {w : World} {a : Option Addr} {n cap : Nat} {ls : List Lk} (h : LksAt w (.slice a n cap) ls) {i : Nat} {l : Lk} (hi : ls[i]? = some l) {b off : Nat} (ha : a = some ⟨b, off, none⟩) : b < w.heap.size := by
  rcases h with ⟨a, cap, -, rfl⟩ | ⟨b', off', cap, e, hlt, -⟩
  · simp at hi
  · injection e with e
    rw [ha] at e
    injection e with e
    injection e with e
    omega
set_option maxRecDepth 100000 in
set_option maxHeartbeats 8000000 in
theorem least_any (a to : Int) (fa fb : Nat) (ua : U64 fa) (ub : U64 fb) (vr vl : Value) (rs : List ByteArray) (ls : List Lk) (w : World) (ht : TpAt w vr vl rs ls) (hm : MayL rs.length ls) (hn : rs.length ≤ 64) (hl : ls.length ≤ 64) (htab : TabB w) :
    Calls Tryz.prog 348 #[.agg #[vr, vl], .int .i64 a, .int .i64 to, setV fa fb] w fun e w' => ∃ d o, e = .returned (.tuple #[.int .u64 d, .bool o]) ∧ Told ls rs.length (hasB fa fb) a to d o ∧ Below w.heap.size w w' := by
  refine (callsIn_wide (n := 3)).1 ?_
  have h1 : 1 ≤ 3 := by omega
  obtain ⟨la, lcap, rfl⟩ := ht.ls.form
  have HT := Lib.hid ht
  have HR0 := Lib.hid (LS.start w vr (.slice la ls.length lcap) fa fb)
  have HI0 := Lib.hid (LeI.init (ls := ls) (F := hasB fa fb) (show rs.length ≤ 128 by omega) a to)
  clear ht
  refine callsIn_of_wp_marks Tryz.func348 rfl trivial ?_ rfl
  simp only [Tryz.ntmps348, List.size_toArray, List.length_cons, List.length_nil, Nat.reduceAdd, Nat.reduceSub, Array.replicate_succ, Array.replicate_zero, List.push_toArray, List.append_toArray, List.nil_append, List.cons_append]
  obtain ⟨k0, k1⟩ := HR0.out.cells
  gi_wp2
  refine ⟨trivial, ?_⟩
  gi_at_call 369
  refine (callsIn_wide.2 (routers_any vr (.slice la ls.length lcap) rs ls _ (HT.out.step HR0.out.below) (by omega))).mono ?_
  rintro e w2 ⟨rfl, b2⟩
  have hR2 := HR0.out.step b2
  clear b2 HR0 k0 k1
  generalize (ofS (firstN (min (rs.length : Int) 128).toNat)).1 = p0 at *
  generalize (ofS (firstN (min (rs.length : Int) 128).toNat)).2 = q0 at *
  have hb3 := below_new w2 (.cells #[.int .u64 (p0 : Int), .int .u64 (q0 : Int)] 43)
  have hR3 := hR2.step hb3
  have hS3 := boxed_set w2 p0 q0
  have e3 : (w2.alloc (.cells #[.int .u64 (p0 : Int), .int .u64 (q0 : Int)] 43)).heap.size = w2.heap.size + 1 := World.size_alloc _ _
  have hb4 := below_new (w2.alloc (.cells #[.int .u64 (p0 : Int), .int .u64 (q0 : Int)] 43)) (.cells #[.pointer none, .int .i64 0, .int .u64 0] 416)
  have hR4 := hR3.step hb4
  have hS4 := hS3.step hb4
  have hH4 := heap_new (w2.alloc (.cells #[.int .u64 (p0 : Int), .int .u64 (q0 : Int)] 43)) hencI 435 416
  rw [e3] at hH4
  have HP := Lib.hid (putI_any (B := w2.heap.size + 1) (q := []) (n := 0) 0 a 0 _ hH4 (by decide) (by decide) (fun y hy => by cases hy) (fun y hy => by cases hy))
  have HL2 : Hid (w.heap.size + 1 < w2.heap.size) := Lib.hid hR2.lt
  have HR4 := Lib.hid hR4
  have HS4 := Lib.hid hS4
  clear hR2 hb3 hR3 hS3 e3 hb4 hR4 hS4 hH4
  generalize hLb : w2.heap.size = Lb at *
  gi_wp2
  refine ⟨trivial, ?_⟩
  gi_at_call 370
  refine (callsIn_wide.2 HP.out).mono ?_
  rintro e w5 ⟨⟨v5, rfl⟩, h5, g5⟩
  have HR5 := Lib.hid (HR4.out.grown (by have := HL2.out; omega) g5)
  have HS5 := Lib.hid (HS4.out.grown (by omega) g5)
  have HH5 : Hid (HpAt hencI 435 416 (Lb + 1) w5 [⟨0, 0, a⟩] 1) := Lib.hid h5
  have HRem := Lib.hid (remL_le ls (hasB fa fb) (hasI p0 q0))
  clear h5 g5 HR4 HS4 HP
  gi_wp2
  refine wpIn_loop_ghost_k (fun k A W => ∃ (Ds : List Nat) (u12 u13 u14 u15 u16 u17 u18 u19 u20 u21 u22 u23 u24 u25 u26 u27 u28 u29 u30 u31 u32 u33 u34 u35 u36 u37 u38 u39 u40 u41 u42 u43 u44 u45 u46 u47 u48 u49 u50 u51 u52 u53 u54 u55 u56 u57 u58 u59 : Value), LeR w vr (.slice la ls.length lcap) ls rs.length fa fb a to Lb k Ds W ∧
    A = { tmps := #[.agg #[vr, .slice la ls.length lcap], .int .i64 a, .int .i64 to, setV fa fb, .pointer (some ⟨w.heap.size, 0, none⟩), undef, undef, .pointer (some ⟨w.heap.size + 1, 0, none⟩), .int .u64 0, .bool false, .pointer (some ⟨Lb, 0, none⟩), .pointer (some ⟨Lb + 1, 0, none⟩), u12, u13, u14, u15, u16, u17, u18, u19, u20, u21, u22, u23, u24, u25, u26, u27, u28, u29, u30, u31, u32, u33, u34, u35, u36, u37, u38, u39, u40, u41, u42, u43, u44, u45, u46, u47, u48, u49, u50, u51, u52, u53, u54, u55, u56, u57, u58, u59], defers := marks Ds }) (1 + remL ls (hasB fa fb) (hasI p0 q0)) ⟨[], _, _, _, _, _, _, _, _, _, _, _, _, _, _, _, _, _, _, _, _, _, _, _, _, _, _, _, _, _, _, _, _, _, _, _, _, _, _, _, _, _, _, _, _, _, _, _, _, ⟨p0, q0, _, _, HI0.out, rfl, by have := HRem.out; omega, by have := HRem.out; omega, HH5.out, HS5.out, HR5.out, MarksAt.nil _ _⟩, rfl⟩ ?_
  clear HI0 HS5 HR5 HH5 HRem
  rintro gk A W ⟨Ds, u12, u13, u14, u15, u16, u17, u18, u19, u20, u21, u22, u23, u24, u25, u26, u27, u28, u29, u30, u31, u32, u33, u34, u35, u36, u37, u38, u39, u40, u41, u42, u43, u44, u45, u46, u47, u48, u49, u50, u51, u52, u53, u54, u55, u56, u57, u58, u59, ⟨a1, b1, q, m, hI, hgk, hk65, hm65, hH, hS, hR, hMk⟩, rfl⟩ J K hJ hK
  have HJ := Lib.hid hJ
  have HK := Lib.hid hK
  have HG := Lib.hid hgk
  have HG2 := Lib.hid hk65
  have HG3 := Lib.hid hm65
  have HM := Lib.hid hMk
  have HR := Lib.hid hR
  have HS := Lib.hid hS
  have HH := Lib.hid hH
  have HLen := Lib.hid (lenI_any W hH)
  clear hJ hK hgk hk65 hm65 hMk hR hS hH
  cases q with
  | nil =>
    have HF := Lib.hid (hI.none hm)
    clear hI
    gi_wp2
    refine ⟨trivial, ?_⟩
    gi_at_call 371
    refine (callsIn_wide.2 HLen.out).mono ?_
    rintro e w6 ⟨rfl, rfl⟩
    gi_wp2
    refine leaves_marks (B := w.heap.size) Ds _ HM.out fun w' hsh => ⟨.tuple #[.int .u64 0, .bool false], ?_, 0, false, rfl, HF.out, HR.out.below.trans hsh.below⟩
    simp [results, Tryz.f348, go_sem]
  | cons e q =>
    have hpos : (0 : Int) < ((e :: q).length : Int) := by rw [List.length_cons]; omega
    have HI := Lib.hid hI
    have hql : q.length ≤ 1000 := by have h1 := HG.out; have h2 := HG2.out; rw [List.length_cons] at h1; omega
    have HT2 := Lib.hid (takeI_some W HH.out hql)
    have HSo := Lib.hid HH.out.sorted
    clear hI hql
    generalize hlen : ((e :: q).length : Int) = z at *
    clear hlen
    gi_wp2
    refine ⟨trivial, ?_⟩
    gi_at_call 371
    refine (callsIn_wide.2 HLen.out).mono ?_
    rintro e' w6 ⟨rfl, rfl⟩
    gi_wp2
    refine ⟨trivial, ?_⟩
    gi_at_call 372
    refine (callsIn_wide.2 HT2.out).mono ?_
    rintro e' w7 ⟨rfl, ⟨m7, hm7, h7⟩, g7⟩
    have hR7 := HR.out.grown (by have := HL2.out; omega) g7
    have hS7 := HS.out.grown (by omega) g7
    have hM7 := HM.out.keep (HH.out.keeps g7)
    have hb8 := below_new w7 (.cells #[.int .u64 e.c] 41)
    have hR8 := hR7.step hb8
    have hS8 := hS7.step hb8
    have hM8 := hM7.keep (KeepsOthers.alloc _ (.cells #[.int .u64 e.c] 41))
    have hH8 := h7.below hb8
    have hd8 : (w7.alloc (.cells #[.int .u64 e.c] 41)).heap[w7.heap.size]? = some (.cells #[.int .u64 e.c] 41 (0, 0)) := heap_alloc_new w7 _
    have hd7 : Hid (Lb + 1 < w7.heap.size) := Lib.hid h7.lt
    obtain ⟨l0, l1, -⟩ := hS8.cells
    have HHas := Lib.hid (fun W => has_any a1 b1 e.x HI.out.u1 HI.out.u2 W)
    have HR8 := Lib.hid hR8
    have HS8 := Lib.hid hS8
    have HM8 := Lib.hid hM8
    have HH8 := Lib.hid hH8
    have HD8 := Lib.hid hd8
    have HM7 := Lib.hid hm7
    clear g7 h7 hR7 hS7 hM7 hb8 hR8 hS8 hM8 hH8 hd8 hm7 HLen HT2 HR HS HM HH hpos
    gi_wp2
    refine ⟨trivial, ?_⟩
    gi_at_call 46
    refine (callsIn_wide.2 (HHas.out _)).mono ?_
    rintro e' w9 ⟨rfl, b9⟩
    have hR9 := HR8.out.step b9
    have hS9 := HS8.out.step b9
    have hM9 := HM8.out.keep (keeps_below b9)
    have hH9 := HH8.out.below b9
    have hd9 := (b9.block _ (Array.getElem?_eq_some_iff.1 HD8.out).1).trans HD8.out
    clear b9 HR8 HS8 HM8 HH8 HD8 HHas l0 l1
    by_cases hin : hasI a1 b1 e.x = true
    · have HIn := Lib.hid hin
      rw [hin]
      by_cases het : e.x = to
      · have HF := Lib.hid (HI.out.hit hm HSo.out hin het)
        have dc : w9.cell? ⟨w7.heap.size, 0, none⟩ = some (.int .u64 e.c) := by rw [Lib.cell_of_heap hd9]; rfl
        have HR9 := Lib.hid hR9
        have HM9 := Lib.hid hM9
        have hte : (e.x == to) = true := by simpa using het
        clear hin hR9 hS9 hM9 hH9 hd9 het
        gi_wp2
        refine leaves_marks (B := w.heap.size) Ds _ HM9.out fun w' hsh => ⟨.tuple #[.int .u64 e.c, .bool true], ?_, e.c, true, rfl, HF.out, HR9.out.below.trans hsh.below⟩
        simp [results, Tryz.f348, go_sem]
      · have HLn := Lib.hid (HI.out.mark hm (by omega) HSo.out hin het)
        have hr' := HI.out.sub _ hin
        have hr2 : 0 ≤ e.x ∧ e.x < 128 := by unfold InN at hr'; omega
        have HWo := Lib.hid (fun W => without_any a1 b1 e.x HI.out.u1 HI.out.u2 W)
        have HSp := Lib.hid (remL_split ls (hasB fa fb) (hasI a1 b1) (hasI (lessN a1 (oneW e.x).1) (lessN b1 (oneW e.x).2)) e.x hin (fun v => hasI_without HI.out.u1 HI.out.u2 hr2 v))
        have hte : (e.x == to) = false := by simpa using het
        generalize lessN a1 (oneW e.x).1 = a2 at *
        generalize lessN b1 (oneW e.x).2 = b2 at *
        obtain ⟨l0, l1, -⟩ := hS9.cells
        have HR9 := Lib.hid hR9
        have HS9 := Lib.hid hS9
        have HM9 := Lib.hid hM9
        have HH9 := Lib.hid hH9
        have HD9 := Lib.hid hd9
        clear hr' hr2 hin het hR9 hS9 hM9 hH9 hd9 HI HSo HIn
        gi_wp2
        refine ⟨trivial, ?_⟩
        gi_at_call 373
        refine (callsIn_wide.2 (HWo.out _)).mono ?_
        rintro e' wA ⟨rfl, bA⟩
        have hRA := HR9.out.step bA
        have hSA := HS9.out.step bA
        have hMA := HM9.out.keep (keeps_below bA)
        have hHA := HH9.out.below bA
        have hdA := (bA.block _ (Array.getElem?_eq_some_iff.1 HD9.out).1).trans HD9.out
        obtain ⟨l0, l1, lf⟩ := hSA.cells
        have l2 := lf 0
        have l3 := lf 1
        have hRB := (hRA.far (b := Lb) HL2.out 0 (.int .u64 (a2 : Int))).far (b := Lb) HL2.out 1 (.int .u64 (b2 : Int))
        have hSB := hSA.put a2 b2
        have hMB := (hMA.keep (KeepsOthers.setCell _ ⟨Lb, 0, none⟩ (.int .u64 (a2 : Int)))).keep (KeepsOthers.setCell _ ⟨Lb, 1, none⟩ (.int .u64 (b2 : Int)))
        have hHB := (hHA.far (b := Lb) (by omega) 0 (.int .u64 (a2 : Int))).far (b := Lb) (by omega) 1 (.int .u64 (b2 : Int))
        have hdB : ((wA.setCell ⟨Lb, 0, none⟩ (.int .u64 (a2 : Int))).setCell ⟨Lb, 1, none⟩ (.int .u64 (b2 : Int))).heap[w7.heap.size]? = some (.cells #[.int .u64 e.c] 41 (0, 0)) :=
          ((heap_setCell_other _ _ _ _ (by show w7.heap.size ≠ Lb; have := hd7.out; omega)).trans (heap_setCell_other _ _ _ _ (by show w7.heap.size ≠ Lb; have := hd7.out; omega))).trans hdA
        have HRB := Lib.hid hRB
        have HSB := Lib.hid hSB
        have HMB := Lib.hid hMB
        have HHB := Lib.hid hHB
        have HDB := Lib.hid hdB
        clear bA hRA hSA hMA hHA hdA lf hRB hSB hMB hHB hdB HR9 HS9 HM9 HH9 HD9 HWo
        gi_wp2
        clear l0 l1 l2 l3
        have hRC := HRB.out.step (Below.refl _ _).drew
        have hSC := HSB.out.step (Below.refl _ _).drew
        have hMC := HMB.out.keep (KeepsOthers.drew _)
        have hHC := HHB.out.below (Below.refl _ _).drew
        have hdC : ((wA.setCell ⟨Lb, 0, none⟩ (.int .u64 (a2 : Int))).setCell ⟨Lb, 1, none⟩ (.int .u64 (b2 : Int))).drew.heap[w7.heap.size]? = some (.cells #[.int .u64 e.c] 41 (0, 0)) := HDB.out
        clear HRB HSB HMB HHB HDB
        refine region_P (fun X => X.cell? ⟨w.heap.size, 0, none⟩ = some vr ∧ X.cell? ⟨w.heap.size, 1, none⟩ = some (.slice la ls.length lcap) ∧ X.cell? ⟨w.heap.size + 1, 0, none⟩ = some (.int .u64 (fa : Int)) ∧ X.cell? ⟨w.heap.size + 1, 1, none⟩ = some (.int .u64 (fb : Int))) (by kernel_rfl) ?_
        generalize ((wA.setCell ⟨Lb, 0, none⟩ (.int .u64 (a2 : Int))).setCell ⟨Lb, 1, none⟩ (.int .u64 (b2 : Int))).drew = wC at *
        have hS0 : (fun X : World => X.cell? ⟨w.heap.size, 0, none⟩ = some vr ∧ X.cell? ⟨w.heap.size, 1, none⟩ = some (.slice la ls.length lcap) ∧ X.cell? ⟨w.heap.size + 1, 0, none⟩ = some (.int .u64 (fa : Int)) ∧ X.cell? ⟨w.heap.size + 1, 1, none⟩ = some (.int .u64 (fb : Int))) wC := ⟨hRC.cells.1, hRC.cells.2, hRC.fl.cells.1, hRC.fl.cells.2.1⟩
        refine wpH_take (i := 0) (v := .agg #[vr, .slice la ls.length lcap]) (by kernel_rfl) rfl (by kernel_rfl) (by kernel_rfl) (by kernel_rfl) (fun _ _ _ h => h) (Or.inl ⟨by rfl, ?_⟩) (fun _ => rfl) hS0 ?_
        · rintro w' ⟨s0, s1, s2, s3⟩
          go_simp
        try simp only [Act.put]
        refine wpH_take (i := 1) (v := .int .i64 e.x) (by kernel_rfl) rfl (by kernel_rfl) (by kernel_rfl) (by kernel_rfl) (fun _ _ _ h => h) (Or.inl ⟨by rfl, ?_⟩) (fun _ => rfl) hS0 ?_
        · rintro w' -
          go_simp
        try simp only [Act.put]
        refine wpH_take (i := 3) (v := .agg #[.int .u64 (fa : Int), .int .u64 (fb : Int)]) (by kernel_rfl) rfl (by kernel_rfl) (by kernel_rfl) (by kernel_rfl) (fun _ _ _ h => h) (Or.inl ⟨by rfl, ?_⟩) (fun _ => rfl) hS0 ?_
        · rintro w' ⟨s0, s1, s2, s3⟩
          go_simp
        try simp only [Act.put]
        refine wpH_one (i := 2) (by kernel_rfl) rfl ?_
        intro KK hKK
        go_simp
        refine ⟨trivial, ?_⟩
        refine (callsIn_wide.2 (tOut_any e.x vr (.slice la ls.length lcap) rs ls _ (HT.out.step hRC.below) (by omega))).mono ?_
        rintro e' wD ⟨rfl, bD⟩
        have hRD := hRC.step bD
        have hSD := hSC.step bD
        have hMD := hMC.keep (keeps_below bD)
        have hHD := hHC.below bD
        have hdD := (bD.block _ (Array.getElem?_eq_some_iff.1 hdC).1).trans hdC
        refine hKK _ _ ⟨⟨hRD.cells.1, hRD.cells.2, hRD.fl.cells.1, hRD.fl.cells.2.1⟩, ?_⟩
        clear hKK hS0 bD hRC hSC hMC hHC hdC
        try simp only [Act.put]
        obtain ⟨c, d, hcd⟩ : ∃ c d, whS (frB e.x) ls = (c, d) := ⟨_, _, rfl⟩
        obtain ⟨uc, ud⟩ := whS_u64 (frB e.x) ls
        have hlv : outW ls e.x fa fb = (lessN c fa, lessN d fb) := by unfold outW; rw [hcd]
        rw [hcd] at uc ud ⊢
        refine wpH_one (i := 4) (by kernel_rfl) rfl ?_
        intro KK hKK
        go_simp
        refine ⟨trivial, ?_⟩
        refine (callsIn_wide.2 (less_any c d fa fb uc ud ua ub _)).mono ?_
        rintro e' wE ⟨rfl, bE⟩
        have hRE := hRD.step bE
        have hSE := hSD.step bE
        have hME := hMD.keep (keeps_below bE)
        have hHE := hHD.below bE
        have hdE := (bE.block _ (Array.getElem?_eq_some_iff.1 hdD).1).trans hdD
        refine hKK _ _ ⟨⟨hRE.cells.1, hRE.cells.2, hRE.fl.cells.1, hRE.fl.cells.2.1⟩, ?_⟩
        clear hKK bE hRD hSD hMD hHD hdD
        try simp only [Act.put]
        have ue : U64 (lessN c fa) := U64.less _ uc
        have uf : U64 (lessN d fb) := U64.less _ ud
        generalize lessN c fa = e1 at *
        generalize lessN d fb = e2 at *
        refine wpH_one (i := 5) (by kernel_rfl) rfl ?_
        intro KK hKK
        go_simp
        refine ⟨trivial, ?_⟩
        refine (callsIn_wide.2 (all_any e1 e2 _)).mono ?_
        rintro e' wF ⟨rfl, rfl⟩
        have hbF := below_new wE (.cells #[.int .u64 (e1 : Int), .int .u64 (e2 : Int)] 43)
        have hR := hRE.step hbF
        have hS := hSE.step hbF
        have hM := hME.keep (KeepsOthers.alloc _ (.cells #[.int .u64 (e1 : Int), .int .u64 (e2 : Int)] 43))
        have hH := hHE.below hbF
        have hd := (hbF.block _ (Array.getElem?_eq_some_iff.1 hdE).1).trans hdE
        have hA := boxed_set wE e1 e2
        have hT := htab.below htab.lt hR.below
        refine hKK _ _ ⟨⟨hR.cells.1, hR.cells.2, hR.fl.cells.1, hR.fl.cells.2.1⟩, ?_⟩
        clear hKK hbF hRE hSE hME hHE hdE
        try simp only [Act.put]
        refine wpH_done (by kernel_rfl) ?_ _
        dsimp only [noP]
        have HR0 : Hid (w.heap.size ≤ (wE.alloc (.cells #[.int .u64 (e1 : Int), .int .u64 (e2 : Int)] 43)).heap.size) := Lib.hid hR.below.size
        have HLV := Lib.hid hlv
        have HCnt := Lib.hid (out_len (ls := ls) (r := e.x) ua ub (by omega))
        rw [hlv] at HCnt
        clear hlv hcd
        generalize wE.alloc (.cells #[.int .u64 (e1 : Int), .int .u64 (e2 : Int)] 43) = W0 at *
        gi_wp2
        refine wpIn_rangeFunc_ownF rfl h1 (gf := 64) (lb := #[.pointer (some ⟨wE.heap.size, 0, none⟩)]) rfl trivial (enters_of Tryz.func64 (by kernel_rfl) rfl)
          (all1_stopsM 2 (by omega) wE.heap.size w.heap.size e1 e2 ue uf _ hA hT htab.lt) belowK_t (belowK_b hR.below.size) (Below.refl _ _) (fun _ => rfl)
          (fun pre X => ((LS w vr (.slice la ls.length lcap) fa fb X ∧ SetAt X Lb a2 b2) ∧ X.heap[w7.heap.size]? = some (.cells #[.int .u64 e.c] 41 (0, 0))) ∧ (∃ q2, LnI ls rs.length (hasB fa fb) a to a2 b2 e.x e.c ((pre.map (·.1)).map (·.1)) q2 ∧ q2.length = q.length + pre.length ∧ HpAt hencI 435 416 (Lb + 1) X q2 (m7 + pre.length)) ∧ MarksAt Ds w.heap.size X)
          (fun _ _ _ => False)
          (OwnFrom.and (OwnFrom.and (OwnFrom.and (LS.own hR.below.size) (fun s X Y row hs hg hr => hs.own hg (fun r e => (hr r e).2))) (fun s X Y row hs hg hr => blk_kept hs rfl hg (fun r e => (hr r e).2))) (OwnFrom.and (fun s X Y row hs hg hr => by obtain ⟨q2, hf, hf2, hs⟩ := hs; exact ⟨q2, hf, hf2, hs.own hg (fun r e => (hr r e).2)⟩) (marks_own Ds w.heap.size _ hM.lt)))
          (fun _ _ _ _ _ hs _ _ => hs)
          ⟨⟨⟨hR, hS⟩, hd⟩, ⟨q, HLn.out, rfl, by simpa using hH⟩, hM⟩
          ?a1 ?assign ?body ?done ?stop
        case assign =>
          intro l x W K hK
          gi_wp2
          exact hK
        case body =>
          rintro l pre x X ⟨⟨⟨hR, hS⟩, hd⟩, ⟨q2, hLn, hq2, hH⟩, hMk⟩ hlt
          obtain ⟨lk, hlk, hfr, hF⟩ := out_link (ls := ls) (r := e.x) ua ub (j := x.1.1) (by rw [HLV.out]; exact x.2)
          obtain ⟨lb, loff, rfl, c0, c1, c2, c3⟩ := HT.out.ls.at hlk hR.below
          have HLb := Lib.hid (HT.out.ls.blt hlk rfl)
          obtain ⟨hfrN, htoN, hds0, hdsm⟩ := hm _ _ hlk
          obtain ⟨hcN, hc0, hcm⟩ := hLn.best.1.bd hm
          obtain ⟨kk, hkk, hcut1, hcut2⟩ := sorted_cut (addI e.c lk.ds) hH.sorted
          have hxb : ((x.1.1 : Nat) : Int) < ls.length := by have := (List.getElem?_eq_some_iff.1 hlk).1; omega
          have hq2l : q2.length ≤ 1000 := by have h1 := HG.out; have h2 := HG2.out; rw [List.length_cons] at h1; omega
          have hm2 : m7 + (pre.length : Int) ≤ 1000000 := by have h1 := HG3.out; have h2 := HM7.out; omega
          have HLn2 := Lib.hid (hLn.put hlk hF hfr (e := ⟨addI e.c lk.ds, m7 + pre.length, lk.to⟩) rfl rfl (mem_put q2 kk _))
          have HPut := Lib.hid (fun W' (h : HpAt hencI 435 416 (Lb + 1) W' q2 (m7 + pre.length)) => putI_any (B := Lb + 1) (addI e.c lk.ds) lk.to kk W' h hm2 hq2l hcut1 hcut2)
          have HAdd := Lib.hid (fun W' => add_any e.c lk.ds hc0 hds0 W')
          have hdc : X.cell? ⟨w7.heap.size, 0, none⟩ = some (.int .u64 e.c) := by rw [Lib.cell_of_heap hd]; rfl
          have HQ2 := Lib.hid hq2
          have HKK := Lib.hid hkk
          clear hlk hfr hF hfrN htoN hds0 hdsm hcN hc0 hcm hkk hcut1 hcut2 hq2l hm2 hLn hq2 HLn hlt
          generalize addI e.c lk.ds = cc at *
          gi_wp2
          clear c0 c1
          refine region_P (fun X : World => X.cell? ⟨w7.heap.size, 0, none⟩ = some (.int .u64 e.c) ∧ X.cell? ⟨w.heap.size, 1, none⟩ = some (.slice (some ⟨lb, loff, none⟩) ls.length lcap) ∧ X.cell? ⟨lb, loff + x.1.1 * 4 + 2, none⟩ = some (.int .i64 lk.to) ∧ X.cell? ⟨lb, loff + x.1.1 * 4 + 3, none⟩ = some (.int .u64 lk.ds)) (by kernel_rfl) ?_
          have hS0 : (fun X : World => X.cell? ⟨w7.heap.size, 0, none⟩ = some (.int .u64 e.c) ∧ X.cell? ⟨w.heap.size, 1, none⟩ = some (.slice (some ⟨lb, loff, none⟩) ls.length lcap) ∧ X.cell? ⟨lb, loff + x.1.1 * 4 + 2, none⟩ = some (.int .i64 lk.to) ∧ X.cell? ⟨lb, loff + x.1.1 * 4 + 3, none⟩ = some (.int .u64 lk.ds)) X.drew := ⟨hdc, hR.cells.2, c2, c3⟩
          refine wpH_take (i := 0) (v := .int .u64 e.c) (by kernel_rfl) rfl (by kernel_rfl) (by kernel_rfl) (by kernel_rfl) (fun _ _ _ h => h) (Or.inl ⟨by rfl, ?_⟩) (fun _ => rfl) hS0 ?_
          · rintro w' ⟨s0, s1, s2, s3⟩
            go_simp
          try simp only [Act.put]
          refine wpH_take (i := 1) (v := .pointer (some ⟨w.heap.size, 1, none⟩)) (by kernel_rfl) rfl (by kernel_rfl) (by kernel_rfl) (by kernel_rfl) (fun _ _ _ h => h) (Or.inl ⟨by rfl, ?_⟩) (fun _ => rfl) hS0 ?_
          · rintro w' -
            go_simp
          try simp only [Act.put]
          refine wpH_take (i := 2) (v := .slice (some ⟨lb, loff, none⟩) ls.length lcap) (by kernel_rfl) rfl (by kernel_rfl) (by kernel_rfl) (by kernel_rfl) (fun _ _ _ h => h) (Or.inl ⟨by rfl, ?_⟩) (fun _ => rfl) hS0 ?_
          · rintro w' ⟨s0, s1, s2, s3⟩
            go_simp
          try simp only [Act.put]
          refine wpH_take (i := 3) (v := .int .i64 ((x.1.1 : Nat) : Int)) (by kernel_rfl) rfl (by kernel_rfl) (by kernel_rfl) (by kernel_rfl) (fun _ _ _ h => h) (Or.inl ⟨by rfl, ?_⟩) (fun _ => rfl) hS0 ?_
          · rintro w' -
            go_simp
          try simp only [Act.put]
          refine wpH_take (i := 4) (v := .pointer (some ⟨lb, loff + x.1.1 * 4, none⟩)) (by kernel_rfl) rfl (by kernel_rfl) (by kernel_rfl) (by kernel_rfl) (fun _ _ _ h => h) (Or.inl ⟨by rfl, ?_⟩) (fun _ => rfl) hS0 ?_
          · rintro w' -
            go_simp
          try simp only [Act.put]
          refine wpH_take (i := 5) (v := .pointer (some ⟨lb, loff + x.1.1 * 4 + 3, none⟩)) (by kernel_rfl) rfl (by kernel_rfl) (by kernel_rfl) (by kernel_rfl) (fun _ _ _ h => h) (Or.inl ⟨by rfl, ?_⟩) (fun _ => rfl) hS0 ?_
          · rintro w' -
            go_simp
          try simp only [Act.put]
          refine wpH_take (i := 6) (v := .int .u64 lk.ds) (by kernel_rfl) rfl (by kernel_rfl) (by kernel_rfl) (by kernel_rfl) (fun _ _ _ h => h) (Or.inl ⟨by rfl, ?_⟩) (fun _ => rfl) hS0 ?_
          · rintro w' ⟨s0, s1, s2, s3⟩
            go_simp
          try simp only [Act.put]
          refine wpH_take (i := 8) (v := .pointer (some ⟨w.heap.size, 1, none⟩)) (by kernel_rfl) rfl (by kernel_rfl) (by kernel_rfl) (by kernel_rfl) (fun _ _ _ h => h) (Or.inl ⟨by rfl, ?_⟩) (fun _ => rfl) hS0 ?_
          · rintro w' -
            go_simp
          try simp only [Act.put]
          refine wpH_take (i := 9) (v := .slice (some ⟨lb, loff, none⟩) ls.length lcap) (by kernel_rfl) rfl (by kernel_rfl) (by kernel_rfl) (by kernel_rfl) (fun _ _ _ h => h) (Or.inl ⟨by rfl, ?_⟩) (fun _ => rfl) hS0 ?_
          · rintro w' ⟨s0, s1, s2, s3⟩
            go_simp
          try simp only [Act.put]
          refine wpH_take (i := 10) (v := .int .i64 ((x.1.1 : Nat) : Int)) (by kernel_rfl) rfl (by kernel_rfl) (by kernel_rfl) (by kernel_rfl) (fun _ _ _ h => h) (Or.inl ⟨by rfl, ?_⟩) (fun _ => rfl) hS0 ?_
          · rintro w' -
            go_simp
          try simp only [Act.put]
          refine wpH_take (i := 11) (v := .pointer (some ⟨lb, loff + x.1.1 * 4, none⟩)) (by kernel_rfl) rfl (by kernel_rfl) (by kernel_rfl) (by kernel_rfl) (fun _ _ _ h => h) (Or.inl ⟨by rfl, ?_⟩) (fun _ => rfl) hS0 ?_
          · rintro w' -
            go_simp
          try simp only [Act.put]
          refine wpH_take (i := 12) (v := .pointer (some ⟨lb, loff + x.1.1 * 4 + 2, none⟩)) (by kernel_rfl) rfl (by kernel_rfl) (by kernel_rfl) (by kernel_rfl) (fun _ _ _ h => h) (Or.inl ⟨by rfl, ?_⟩) (fun _ => rfl) hS0 ?_
          · rintro w' -
            go_simp
          try simp only [Act.put]
          refine wpH_take (i := 13) (v := .int .i64 lk.to) (by kernel_rfl) rfl (by kernel_rfl) (by kernel_rfl) (by kernel_rfl) (fun _ _ _ h => h) (Or.inl ⟨by rfl, ?_⟩) (fun _ => rfl) hS0 ?_
          · rintro w' ⟨s0, s1, s2, s3⟩
            go_simp
          try simp only [Act.put]
          refine wpH_one (i := 7) (by kernel_rfl) rfl ?_
          intro KK hKK
          go_simp
          refine ⟨trivial, ?_⟩
          refine (CallsIn.inRound l (callsIn_wide.2 (HAdd.out _))).mono ?_
          rintro e' w3 ⟨rfl, rfl⟩
          refine hKK _ _ ⟨hS0, ?_⟩
          clear hKK
          try simp only [Act.put]
          refine wpH_one (i := 14) (by kernel_rfl) rfl ?_
          intro KK hKK
          go_simp
          refine ⟨trivial, ?_⟩
          refine (CallsIn.inRound l (callsIn_wide.2 (HPut.out _ (hH.below (Below.refl _ _).drew)))).mono ?_
          rintro e' w4 ⟨⟨v4, rfl⟩, h4, g4⟩
          have hR4 := (hR.step (Below.refl _ _).drew).grown (by have := HL2.out; omega) g4
          have hS4 := (hS.step (Below.refl _ _).drew).grown (by omega) g4
          have hd4 : w4.heap[w7.heap.size]? = some (.cells #[.int .u64 e.c] 41 (0, 0)) := (g4.block _ (Array.getElem?_eq_some_iff.1 hd).1 (fun h => by injection h with h; have := hd7.out; omega)).trans hd
          have hbX : Below w.heap.size X w4 := ((Below.refl _ X).drew).grown g4 hR.below.size (fun k h => by cases h; have := HL2.out; omega)
          have hkX : KeepsOthers X w4 := (KeepsOthers.drew X).trans ((hH.below (Below.refl _ _).drew).keeps g4)
          have hlb : lb < w.heap.size := HLb.out
          refine hKK _ _ ⟨⟨by rw [Lib.cell_of_heap hd4]; rfl, hR4.cells.2, (hbX.cell (p := ⟨lb, _, none⟩) hlb).trans c2, (hbX.cell (p := ⟨lb, _, none⟩) hlb).trans c3⟩, ?_⟩
          clear hKK
          refine wpH_done (by kernel_rfl) ?_ _
          dsimp only [noP]
          refine ⟨hkX, hbX, ⟨⟨hR4, hS4⟩, hd4⟩, ⟨_, by rw [List.map_append, List.map_append]; exact HLn2.out, ?_, ?_⟩, hMk.keep hkX⟩
          · rw [len_put, HQ2.out, List.length_append]; rfl
          · rw [List.length_append, List.length_singleton, Int.natCast_add, ← Int.add_assoc]; exact h4
        case done =>
          rintro D xs X hD rfl ⟨⟨⟨hR, hS⟩, hd⟩, ⟨q2, hLn, hq2, hH⟩, hMk⟩ hK
          have hMc := hMk.cons hM.lt hD (Nat.le_trans HR0.out hD) hK
          have hLe := hLn.done (fun i l hi hF hfr => by have := out_all (ls := ls) ua ub (by omega) i l hi hF hfr; rw [HLV.out] at this; exact this)
          have HRR := Lib.hid hR
          have HSS := Lib.hid hS
          have HHH := Lib.hid hH
          have HMC := Lib.hid hMc
          have HLe := Lib.hid hLe
          have HQ2 := Lib.hid hq2
          clear hR hS hd hLn hq2 hH hMk hMc hLe hK
          gi_wp2
          refine HK.out _ _ (Handed.intro (q2.length + remL ls (hasB fa fb) (hasI a2 b2)) ?_ (HJ.out _ _ _ ⟨D :: Ds, _, _, _, _, _, _, _, _, _, _, _, _, _, _, _, _, _, _, _, _, _, _, _, _, _, _, _, _, _, _, _, _, _, _, _, _, _, _, _, _, _, _, _, _, _, _, _, _, ⟨a2, b2, q2, _, HLe.out, rfl, ?_, ?_, HHH.out, HSS.out, HRR.out, HMC.out⟩, rfl⟩))
          · have h1 := HG.out; have h2 := HSp.out; have h3 := HCnt.out; have h4 := HQ2.out; rw [List.length_cons] at h1; omega
          · have h0 := HG2.out; have h1 := HG.out; have h2 := HSp.out; have h3 := HCnt.out; have h4 := HQ2.out; rw [List.length_cons] at h1; omega
          · have h0 := HG3.out; have h1 := HM7.out; have h2 := HSp.out; have h3 := HCnt.out; omega
        case stop =>
          rintro D c' pre X _ _ h _
          exact h.elim
    · have hin' : hasI a1 b1 e.x = false := by simpa using hin
      rw [hin']
      have HI2 := Lib.hid (HI.out.skip hin')
      have HH9 := Lib.hid hH9
      have HS9 := Lib.hid hS9
      have HR9 := Lib.hid hR9
      have HM9 := Lib.hid hM9
      clear hin hin' hR9 hS9 hM9 hH9 hd9
      gi_wp2
      refine HK.out _ _ (Handed.intro (q.length + remL ls (hasB fa fb) (hasI a1 b1)) (by have h1 := HG.out; rw [List.length_cons] at h1; omega) (HJ.out _ _ _ ⟨Ds, _, _, _, _, _, _, _, _, _, _, _, _, _, _, _, _, _, _, _, _, _, _, _, _, _, _, _, _, _, _, _, _, _, _, _, _, _, _, _, _, _, _, _, _, _, _, _, _, ⟨a1, b1, q, m7, HI2.out, rfl, by have h1 := HG.out; have h2 := HG2.out; rw [List.length_cons] at h1; omega, by have h1 := HG3.out; have h2 := HM7.out; omega, HH9.out, HS9.out, HR9.out, HM9.out⟩, rfl⟩))
end Go.Proofs.YtbhkfifmgbcknaaGreatDoor
namespace Go.Proofs.YtbhkfifmgbcknaaGreatDoor
open Go.RowKit Go.Extern.Stop Go.Stop Go.Extern
end Go.Proofs.YtbhkfifmgbcknaaGreatDoor
namespace Go.Proofs.YtbhkfifmgbcknaaGreatDoor
open Go.RowKit Go.Extern.Stop Go.Stop Go.Extern
end Go.Proofs.YtbhkfifmgbcknaaGreatDoor
namespace Go.Proofs.YtbhkfifmgbcknaaGreatDoor
open Go.RowKit Go.Extern.Stop Go.Stop Go.Extern
end Go.Proofs.YtbhkfifmgbcknaaGreatDoor
namespace Go.Proofs.YtbhkfifmgbcknaaGreatDoor
open Go.RowKit Go.Extern.Stop Go.Stop Go.Extern
end Go.Proofs.YtbhkfifmgbcknaaGreatDoor
namespace Go.Proofs.YtbhkfifmgbcknaaGreatDoor
open Go.RowKit Go.Extern.Stop Go.Stop Go.Extern Go.Shelf
attribute [local go_sem] Oper.semAt_some
def UI (B : Nat) (x : Nat) (W : World) : Prop :=
  (W.cell? ⟨B + 1, 0, none⟩ = some (.int .u64 0) ∧ W.frozen? ⟨B + 1, 0, none⟩ = false) ∧ (W.cell? ⟨B + 1, 1, none⟩ = some (.int .u64 0) ∧ W.frozen? ⟨B + 1, 1, none⟩ = false) ∧
    (W.cell? ⟨B + 2, 0, none⟩ = some (.int .u64 (x : Int)) ∧ W.frozen? ⟨B + 2, 0, none⟩ = false) ∧ (W.cell? ⟨B + 2, 1, none⟩ = some (.int .u64 0) ∧ W.frozen? ⟨B + 2, 1, none⟩ = false)
theorem UI.kept {B x : Nat} {W W' : World} {row : Option Nat} (h : UI B x W) (hg : W.grownBy W' row) (hr : ∀ r, row = some r → ∃ o : Obj, W.heap[r]? = some o ∧ o.isCells = false) : UI B x W' := by
  obtain ⟨⟨c0, f0⟩, ⟨c1, f1⟩, ⟨c2, f2⟩, ⟨c3, f3⟩⟩ := h
  exact ⟨⟨cell_kept c0 hg hr, (frozen_kept c0 hg hr).trans f0⟩, ⟨cell_kept c1 hg hr, (frozen_kept c1 hg hr).trans f1⟩, ⟨cell_kept c2 hg hr, (frozen_kept c2 hg hr).trans f2⟩, ⟨cell_kept c3 hg hr, (frozen_kept c3 hg hr).trans f3⟩⟩
theorem UI.step {B x : Nat} {W W' : World} (h : UI B x W) (hb : Below W.heap.size W W') : UI B x W' :=
  h.kept (row := none) ⟨hb.os, hb.tape, hb.output, hb.size, fun k hk _ => hb.block k hk⟩ (fun _ e => by cases e)
theorem ufar {W : World} {q i r j : Nat} {v u : Value} (h : W.cell? ⟨q, i, none⟩ = some v) (hq : q ≠ r) : (W.setCell ⟨r, j, none⟩ u).cell? ⟨q, i, none⟩ = some v :=
  (World.cell?_of_block (w := W) (a := ⟨q, i, none⟩) (heap_setCell_other _ _ _ _ hq)).trans h
theorem UI.next {B x : Nat} {W : World} (h : UI B x W) (y : Nat) : UI B y ((W.setCell ⟨B + 2, 0, none⟩ (.int .u64 (y : Int))).setCell ⟨B + 2, 1, none⟩ (.int .u64 0)) := by
  obtain ⟨⟨c0, f0⟩, ⟨c1, f1⟩, ⟨c2, f2⟩, ⟨c3, f3⟩⟩ := h
  have ne : ∀ i j : Nat, i ≠ j → (⟨B + 2, i, none⟩ : Addr) ≠ ⟨B + 2, j, none⟩ := fun i j h e => h (by injection e)
  refine ⟨⟨ufar (ufar c0 (by omega)) (by omega), ?_⟩, ⟨ufar (ufar c1 (by omega)) (by omega), ?_⟩, ⟨?_, ?_⟩, ⟨?_, ?_⟩⟩
  · rw [World.frozen?_setCell, World.frozen?_setCell]; exact f0
  · rw [World.frozen?_setCell, World.frozen?_setCell]; exact f1
  · rw [World.cell?_setCell_other _ _ _ _ (ne 1 0 (by decide))]; exact World.cell?_setCell_same _ _ _ c2
  · rw [World.frozen?_setCell, World.frozen?_setCell]; exact f2
  · exact World.cell?_setCell_same _ _ _ ((World.cell?_setCell_other _ _ _ _ (ne 0 1 (by decide))).trans c3)
  · rw [World.frozen?_setCell, World.frozen?_setCell]; exact f3
end Go.Proofs.YtbhkfifmgbcknaaGreatDoor
namespace Go.Proofs.YtbhkfifmgbcknaaGreatDoor
open Go.RowKit Go.Extern.Stop Go.Stop Go.Extern
end Go.Proofs.YtbhkfifmgbcknaaGreatDoor
namespace Go.Proofs.YtbhkfifmgbcknaaGreatDoor
open Go.RowKit Go.Extern.Stop Go.Stop Go.Extern
end Go.Proofs.YtbhkfifmgbcknaaGreatDoor
namespace Go.Proofs.YtbhkfifmgbcknaaGreatDoor
open Go.RowKit Go.Extern.Stop Go.Stop Go.Extern
structure KW (w : World) (ks : List Int) (vk : Value) (W : World) : Prop where
  ints : IntsAt W vk ks
  tab : TabB W
  han : Handle W
  below : Below w.heap.size w W
theorem KW.step {w : World} {ks : List Int} {vk : Value} {W W' : World} (h : KW w ks vk W) (hb : Below W.heap.size W W') : KW w ks vk W' :=
  ⟨h.ints.step hb, h.tab.below h.tab.lt hb, h.han.below hb, h.below.trans (hb.mono h.below.size)⟩
end Go.Proofs.YtbhkfifmgbcknaaGreatDoor
namespace Go.Proofs.YtbhkfifmgbcknaaGreatDoor
open Go.RowKit Go.Extern.Stop Go.Stop Go.Extern
theorem parse_05 (w : World) : Calls Tryz.prog 147 #[.string ⟨#[48, 53]⟩] w fun e w' =>
    e = .returned (.tuple #[.int .u64 0, .iface 154 (.pointer (some ⟨w.heap.size, 0, none⟩))]) ∧ w' = w.alloc (.cells #[.int .i64 4, .int .i64 0] 156) := by
  refine (parse_any ⟨#[48, 53]⟩ w (by decide)).mono ?_
  have hR : parseR (ByteArray.mk #[48, 53]).data.toList = (0, 4, 0) := by decide
  rw [hR]
  rintro e w' (⟨h, -⟩ | ⟨-, h⟩)
  · exact absurd h (by decide)
  · exact h
theorem parse_50 (w : World) : Calls Tryz.prog 147 #[.string ⟨#[53, 48]⟩] w fun e w' =>
    e = .returned (.tuple #[.int .u64 50, .nilIface]) ∧ w' = w := by
  refine (parse_any ⟨#[53, 48]⟩ w (by decide)).mono ?_
  have hR : parseR (ByteArray.mk #[53, 48]).data.toList = (50, 0, 0) := by decide
  rw [hR]
  rintro e w' (⟨-, h⟩ | ⟨h, -⟩)
  · exact h
  · exact absurd rfl h
set_option maxRecDepth 100000 in
set_option maxHeartbeats 1600000 in
theorem awake2_any (w : World) (hg : Handle w) :
    Calls Tryz.prog 148 #[] w fun e w' => e = .returned (.bool true) ∧ Below w.heap.size w w' := by
  have b1 := below_alloc w (.cells #[.int .i64 4, .int .i64 0] 156)
  have c1 := new_chain 4 0 w
  have H05 := Lib.hid (parse_05 w)
  obtain ⟨w1, hw1⟩ : ∃ w1, w1 = w.alloc (.cells #[.int .i64 4, .int .i64 0] 156) := ⟨_, rfl⟩
  rw [← hw1] at b1 c1 H05
  have HW := Lib.hid hw1
  clear hw1
  have HC := Lib.hid c1
  clear c1
  have ha : addI 9223372036854775807 5 = 9223372036854775807 := by decide
  go_enter Tryz.func148, Tryz.ntmps148
  go_wp2_with fail
  refine H05.out.mono ?_
  rintro e w' ⟨rfl, rfl⟩
  go_wp2_with fail
  refine (parse_50 _).mono ?_
  rintro e w' ⟨rfl, rfl⟩
  have g1 := hg.below b1
  go_wp2_with fail
  refine (Awake1_any _ g1).mono ?_
  rintro e w2 ⟨rfl, b2⟩
  go_wp2_with fail
  refine (add_any _ _ (by decide) (by decide) _).mono ?_
  rintro e w' ⟨rfl, rfl⟩
  go_wp2_with fail
  refine (lawIs_fault _ 4 0 (by decide) _ _ (HC.out.keep b2) (g1.below b2)).mono ?_
  rintro e w3 ⟨rfl, b3⟩
  go_wp2_with fail
  go_ret
  exact ⟨rfl, b1.trans ((b2.trans (b3.mono b2.size)).mono b1.size)⟩
theorem Awake2_any (w : World) (hg : Handle w) :
    Calls Tryz.prog 111 #[] w fun e w' => e = .returned (.bool true) ∧ Below w.heap.size w w' := by
  go_enter Tryz.func111, Tryz.ntmps111
  go_wp2_with (go_at_call 148; refine (awake2_any _ hg).mono ?_; rintro e w' ⟨rfl, hb⟩)
  go_ret
  exact ⟨rfl, hb⟩
end Go.Proofs.YtbhkfifmgbcknaaGreatDoor
