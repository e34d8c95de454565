/-
  A part of the proof of the statement NfaAccepts.
-/
import Derived.Test.YtbhkfifmgbcknaaGreatDoorG29
import Derived.Test.YtbhkfifmgbcknaaGreatDoorG34
import Derived.Test.YtbhkfifmgbcknaaGreatDoorG26
import Derived.Test.YtbhkfifmgbcknaaGreatDoorG07
import Derived.Test.YtbhkfifmgbcknaaGreatDoorRows
import Derived.Test.YtbhkfifmgbcknaaGreatDoorCards
import Derived.Test.YtbhkfifmgbcknaaGreatDoorTie
import Derived.Test.YtbhkfifmgbcknaaGreatDoorG04
import Derived.ProofKit
import Derived.ChangeSame
import Derived.ChangeVars
import Derived.JoinedOf
import Derived.LaidLaws
import Derived.LaidMore
import Derived.Lib.LaidTab
import Derived.Stop.Joined
import Derived.LaidHandle
import Derived.Test.YtbhkfifmgbcknaaGreatDoorG24
import Derived.WalkKit
import Derived.Lib.Walk
import Derived.Lib.ItoaMem
import Derived.Lib.ItoaLen
import Derived.BigCall
import Derived.BigGuard
import Derived.Outline
set_option linter.unusedSimpArgs false
set_option linter.unusedVariables false
namespace Go.Proofs.YtbhkfifmgbcknaaGreatDoor
open Go.RowKit Go.Extern.Stop Go.Stop Go.Extern
def ab1c : ByteArray := ⟨#[97, 98, 45, 49, 32, 99]⟩
def s07 : ByteArray := ⟨#[48, 55]⟩
theorem run_ab1c : runTo isIn ab1c 0 = 4 := by
  rw [runTo_go (by decide) (by decide), runTo_go (by decide) (by decide), runTo_go (by decide) (by decide), runTo_go (by decide) (by decide), runTo_stop (by decide) (by decide)]
theorem run_07 : runTo isDig s07 0 = 2 := by
  rw [runTo_go (by decide) (by decide), runTo_go (by decide) (by decide), runTo_end (by decide)]
theorem name_ab1c (w : World) : Calls Tryz.prog 109 #[.agg #[.string ab1c, .int .i64 0]] w fun e w' => e = .returned (.tuple #[.agg #[.string ab1c, .int .i64 4], .string ⟨#[97, 98, 45, 49]⟩, .nilIface]) ∧ Below w.heap.size w w' := by
  have h := name_yes ab1c 0 (by decide) (by decide) (by decide) (by rw [run_ab1c]; decide) w
  rw [run_ab1c] at h
  exact h
theorem number_07 (w : World) (hg : Handle w) : Calls Tryz.prog 110 #[.agg #[.string s07, .int .i64 0]] w (NumOut w s07 0 0 4 0) := by
  have hd : digsR s07 0 = (0, 4, 0) := by unfold digsR; rw [run_07]; decide
  have h := number_bad s07 0 (by decide) (by decide) (by rw [run_07]; decide) (by rw [hd]; decide) w hg
  rw [hd] at h
  exact h
set_option maxRecDepth 100000 in
set_option maxHeartbeats 1600000 in
theorem awake3_any (w : World) (hg : Handle w) :
    Calls Tryz.prog 87 #[] w fun e w' => e = .returned (.bool true) ∧ Below w.heap.size w w' := by
  have HN1 := Lib.hid (fun w => scanNew_any ab1c (by decide) w)
  have HN2 := Lib.hid (fun w => scanNew_any s07 (by decide) w)
  have HM := Lib.hid name_ab1c
  have HU := Lib.hid number_07
  unfold ab1c at HN1 HM
  unfold s07 at HN2 HU
  go_enter Tryz.func87, Tryz.ntmps87
  go_wp2_with fail
  refine (HN1.out _).mono ?_
  rintro e w1 ⟨rfl, b1⟩
  have hs1 := ScanAt.new w1 ⟨#[97, 98, 45, 49, 32, 99]⟩ 0 121
  have HB1 := Lib.hid (b1.trans ((sbelow_new w1 (.cells #[.string ⟨#[97, 98, 45, 49, 32, 99]⟩, .int .i64 0] 121)).mono b1.size))
  have HL := Lib.hid b1.size
  go_wp2_with fail
  generalize w1.alloc (.cells #[.string ⟨#[97, 98, 45, 49, 32, 99]⟩, .int .i64 0] 121) = w2 at *
  generalize w1.heap.size = q at *
  refine (HM.out _).mono ?_
  rintro e w3 ⟨rfl, b3⟩
  have hs3 := hs1.step b3
  have hs4 := hs3.set ⟨#[97, 98, 45, 49, 32, 99]⟩ 4
  have HB4 := Lib.hid (((HB1.out.trans (b3.mono HB1.out.size)).setCell (p := ⟨q, 0, none⟩) HL.out (.string ⟨#[97, 98, 45, 49, 32, 99]⟩)).setCell (p := ⟨q, 1, none⟩) HL.out (.int .i64 4))
  clear hs1
  obtain ⟨l3, c0, c1, cf⟩ := hs3
  go_wp2_with fail
  generalize (w3.setCell ⟨q, 0, none⟩ (.string ⟨#[97, 98, 45, 49, 32, 99]⟩)).setCell ⟨q, 1, none⟩ (.int .i64 4) = w4 at *
  clear c0 c1 cf l3
  refine (HN2.out _).mono ?_
  rintro e w5 ⟨rfl, b5⟩
  have hs5 := hs4.step b5
  have HB5 := Lib.hid (HB4.out.trans (b5.mono HB4.out.size))
  have hs6 := hs5.step (sbelow_new w5 (.cells #[.string ⟨#[48, 55]⟩, .int .i64 0] 121))
  have HB6 := Lib.hid (HB5.out.trans ((sbelow_new w5 (.cells #[.string ⟨#[48, 55]⟩, .int .i64 0] 121)).mono HB5.out.size))
  clear hs4 hs5
  go_wp2_with fail
  generalize w5.alloc (.cells #[.string ⟨#[48, 55]⟩, .int .i64 0] 121) = w6 at *
  generalize w5.heap.size = q5 at *
  refine (HU.out _ (hg.below HB6.out)).mono ?_
  rintro e w7 ⟨v, rfl, hv, b7⟩
  have HB7 := Lib.hid (HB6.out.trans (b7.mono HB6.out.size))
  have hs7 := hs6.step b7
  have hs8 := hs7.step (sbelow_new w7 (.cells #[.string ⟨#[48, 55]⟩, .int .i64 0] 121))
  have HB8 := Lib.hid (HB7.out.trans ((sbelow_new w7 (.cells #[.string ⟨#[48, 55]⟩, .int .i64 0] 121)).mono HB7.out.size))
  have HV8 := Lib.hid (hv.keep (sbelow_new w7 (.cells #[.string ⟨#[48, 55]⟩, .int .i64 0] 121)))
  clear hs6 hs7 hv
  go_wp2_with fail
  generalize w7.alloc (.cells #[.string ⟨#[48, 55]⟩, .int .i64 0] 121) = w8 at *
  generalize w7.heap.size = q7 at *
  refine (Awake1_any _ (hg.below HB8.out)).mono ?_
  rintro e w9 ⟨rfl, b9⟩
  have HB9 := Lib.hid (HB8.out.trans (b9.mono HB8.out.size))
  have hs9 := hs8.step b9
  have HV9 := Lib.hid (HV8.out.keep b9)
  clear hs8
  go_wp2_with fail
  refine (Awake2_any _ (hg.below HB9.out)).mono ?_
  rintro e w10 ⟨rfl, b10⟩
  have HB10 := Lib.hid (HB9.out.trans (b10.mono HB9.out.size))
  have hs10 := hs9.step b10
  have HV10 := Lib.hid (HV9.out.keep b10)
  clear hs9
  obtain ⟨l10, d0, d1, df⟩ := hs10
  go_wp2_with fail
  refine (at_any _ 4 _).mono ?_
  rintro e w11 ⟨rfl, b11⟩
  have HB11 := Lib.hid (HB10.out.trans (b11.mono HB10.out.size))
  have HV11 := Lib.hid (HV10.out.keep b11)
  go_wp2_with fail
  refine (lawIs_err v 4 0 _ HV11.out (hg.below HB11.out)).mono ?_
  rintro e w12 ⟨rfl, b12⟩
  go_wp2_with fail
  go_ret
  exact ⟨rfl, HB11.out.trans (b12.mono HB11.out.size)⟩
theorem Awake3_any (w : World) (hg : Handle w) :
    Calls Tryz.prog 60 #[] w fun e w' => e = .returned (.bool true) ∧ Below w.heap.size w w' := by
  go_enter Tryz.func60, Tryz.ntmps60
  go_wp2_with (go_at_call 87; refine (awake3_any _ hg).mono ?_; rintro e w' ⟨rfl, hb⟩)
  go_ret
  exact ⟨rfl, hb⟩
end Go.Proofs.YtbhkfifmgbcknaaGreatDoor
namespace Go.Proofs.YtbhkfifmgbcknaaGreatDoor
open Go.RowKit Go.Extern.Stop Go.Stop Go.Extern
def LnR (w : World) (ns : List ByteArray) (g : Nat) (u n : Value) (wr : World) : Prop :=
  ∃ i : Nat, i ≤ ns.length ∧ g = ns.length - i ∧ u = .int .i64 i ∧ wr.ownsRow w.heap.size 9 1 n i (WordsOf (ns.take i)) ∧ Below w.heap.size w wr
set_option maxRecDepth 100000 in
set_option maxHeartbeats 4000000 in
theorem linkNames_any (vr vl : Value) (rs : List ByteArray) (ls : List Lk) (w : World) (ht : TpAt w vr vl rs ls) (hl : ls.length ≤ 1000) :
    Calls Tryz.prog 378 #[.agg #[vr, vl]] w fun e w' => ∃ u, e = .returned u ∧ StrsAt w' u (ls.map (·.nm)) ∧ Below w.heap.size w w' := by
  have HT := Lib.hid (TB.start ht)
  obtain ⟨la, lcap, rfl⟩ := ht.ls.form
  obtain ⟨i0, hi, hz0, hz1, hz2⟩ := info_parts infoStr
  have k1 := HT.out.c1
  have HLs : Hid ((ls.map (·.nm)).length = ls.length) := Lib.hid (by simp)
  have H0 : Hid (LnR w (ls.map (·.nm)) ls.length (.int .i64 0) (.slice none 0 0) (w.alloc (.cells #[vr, .slice la ls.length lcap] 99))) := Lib.hid ⟨0, Nat.zero_le _, by simp, rfl, World.ownsRow_nil _ _ _ _, HT.out.below⟩
  have HS := Lib.hid ht
  clear ht
  go_enter Tryz.func378, Tryz.ntmps378
  go_wp2_with fail
  go_loopg [9, 3] ls.length (fun g u n wr => LnR w (ls.map (·.nm)) g u n wr)
  case atStart => exact H0.out
  case round =>
    obtain ⟨i, hil, hgi, rfl, hown, hb⟩ := hrel
    rw [HLs.out] at hil hgi
    have HB := Lib.hid hb
    have HO := Lib.hid hown
    by_cases hlt : i < ls.length
    · obtain ⟨l, hx⟩ : ∃ l, ls[i]? = some l := ⟨_, List.getElem?_eq_getElem hlt⟩
      obtain ⟨b, off, rfl, c0, c1, c2, c3⟩ := HS.out.ls.at hx hb
      have HE : Hid (WordsOf ((ls.map (·.nm)).take (i + 1)) = WordsOf ((ls.map (·.nm)).take i) ++ [.string l.nm]) := Lib.hid (by
        rw [List.take_add_one, List.getElem?_map, hx]
        simp [WordsOf])
      have hsz := hb.size
      have HO2 : Hid (((wr.alloc (.cells #[.string l.nm, .int .i64 l.fr, .int .i64 l.to, .int .u64 l.ds] 234)).alloc (.cells #[.string l.nm] 9)).ownsRow w.heap.size 9 1 u3 i (WordsOf ((ls.map (·.nm)).take i))) := Lib.hid ((hown.alloc _).alloc _)
      have HB2 : Hid (Below w.heap.size w ((wr.alloc (.cells #[.string l.nm, .int .i64 l.fr, .int .i64 l.to, .int .u64 l.ds] 234)).alloc (.cells #[.string l.nm] 9))) := Lib.hid ((hb.alloc hb.size _).alloc (by simp; omega) _)
      have HN : Hid (((wr.alloc (.cells #[.string l.nm, .int .i64 l.fr, .int .i64 l.to, .int .u64 l.ds] 234)).alloc (.cells #[.string l.nm] 9)).heap[wr.heap.size + 1]? = some (.cells #[.string l.nm] 9 (0, 0))) := Lib.hid (by
        have := heap_alloc_new (wr.alloc (.cells #[.string l.nm, .int .i64 l.fr, .int .i64 l.to, .int .u64 l.ds] 234)) (.cells #[.string l.nm] 9)
        rwa [World.size_alloc] at this)
      clear hx hb hown HB HO k1
      go_wp2_with (at_builtin; refine wpList_append_own _ rfl _ _ 36 rfl w.heap.size 9 i0 (.string ByteArray.empty) 1 16 Tryz.underlying36 hi hz0 hz1 hz2 rfl (by decide) _ _ _ rfl HO2.out ⟨wr.heap.size + 1, 0, none⟩ 1 1 [.string l.nm] rfl rfl ?_ (fun u hu => by simp at hu; subst hu; rfl) ?_ ?_ ?_ ?_)
      · unfold maxLen; omega
      · omega
      · (try simp only [World.size_alloc]); omega
      intro v4 w4 hown4 hgrow4 _
      have hB4 : Below w.heap.size w w4 := HB2.out.grown hgrow4 (by simp; omega) (fun k' e => (HO2.out.lt k' e).1)
      rw [← HE.out] at hown4
      have HN4 : Hid (LnR w (ls.map (·.nm)) (ls.length - (i + 1)) (.int .i64 ((i : Int) + 1)) v4 w4) := Lib.hid ⟨i + 1, by rw [HLs.out]; omega, by rw [HLs.out], by go_num, hown4, hB4⟩
      clear hown4 hgrow4 hB4 HO2 HB2 HN
      go_wp2_with fail
      go_roundg (ls.length - (i + 1))
      case measure => omega
      case rel => exact HN4.out
    · obtain rfl : i = ls.length := by omega
      have HF : Hid (StrsAt wr u3 (ls.map (·.nm))) := Lib.hid (by
        have h := HO.out
        rw [show (ls.map (·.nm)).take ls.length = ls.map (·.nm) from by rw [← HLs.out, List.take_length]] at h
        exact strs_own (by rw [HLs.out]; exact h))
      clear hb hown k1
      go_wp2_with fail
      go_ret
      exact ⟨_, rfl, HF.out, HB.out⟩
set_option maxRecDepth 100000 in
set_option maxHeartbeats 4000000 in
theorem tpCheck_ok (vr vl : Value) (rs : List ByteArray) (ls : List Lk) (w : World) (ht : TpAt w vr vl rs ls) (hg : GoodT rs ls) (hr : NamesOk rs) (hl : NamesOk (ls.map (·.nm))) :
    Calls Tryz.prog 350 #[.agg #[vr, vl]] w fun e w' => e = .returned .nilIface ∧ Below w.heap.size w w' := by
  have HT := Lib.hid (TB.start ht)
  have HLn : (ls.map (·.nm)).length = ls.length := by simp
  have k0 := HT.out.c0
  have k1 := HT.out.c1
  have H1 := Lib.hid (named_tpCheck1 vr rs _ HT.out.tp.rs hr (fun i W _ _ => check1_any i W))
  have H2 := Lib.hid (fun W h => linkNames_any vr vl rs ls W h (by have := hg.nl; omega))
  have H3 := Lib.hid (fun v W (hv : StrsAt W v (ls.map (·.nm))) (h : TpAt W vr vl rs ls) => named_tpFault (.agg #[vr, vl]) v (ls.map (·.nm)) W hv hl (fun i W' hi hb => linkFault_any i vr vl rs ls W' (h.step hb) hg.may (by rw [HLn] at hi; exact hi)))
  clear ht hg hr hl HLn
  go_enter Tryz.func350, Tryz.ntmps350
  go_wp2_with fail
  refine H1.out.mono ?_
  rintro e w2 ⟨rfl, b2⟩
  have hI := HT.out.step b2
  clear b2 H1 k0 k1 HT
  go_wp2_with fail
  replace hI := hI.step (Below.refl _ _).drew
  have k0 := hI.c0
  have k1 := hI.c1
  go_region_held3 (fun w' => w'.cell? ⟨w.heap.size, 0, none⟩ = some vr ∧ w'.cell? ⟨w.heap.size, 1, none⟩ = some vl)
    (first | exact ⟨k0, k1⟩ | exact ⟨hI.c0, hI.c1⟩ | go_keep)
    (first
    | (go_at_call 378; refine (H2.out _ hI.tp).mono ?_; rintro e w3 ⟨u, rfl, hu, b3⟩; replace hI := hI.step b3)
    | (go_at_call 377; refine (H3.out _ _ hu hI.tp).mono ?_; rintro e w4 ⟨rfl, b4⟩; replace hI := hI.step b4)
    | (go_at_call 89; refine (in_nil _ _).mono ?_; rintro e w5 ⟨rfl, rfl⟩))
  all_goals
    go_wp2_with fail
    go_ret
    exact ⟨rfl, hI.below⟩
end Go.Proofs.YtbhkfifmgbcknaaGreatDoor
namespace Go.Proofs.YtbhkfifmgbcknaaGreatDoor
open Go.RowKit Go.Extern.Stop Go.Stop Go.Extern
def exR : List ByteArray := [⟨#[97]⟩, ⟨#[98]⟩]
def exL : List Lk := [⟨⟨#[108, 48]⟩, 0, 1, 3⟩, ⟨⟨#[108, 49]⟩, 0, 1, 5⟩]
theorem ex_name (s : ByteArray) (h : s = ⟨#[97]⟩ ∨ s = ⟨#[98]⟩ ∨ s = ⟨#[108, 48]⟩ ∨ s = ⟨#[108, 49]⟩) : isNameB s = true := by
  have h1 : ∀ c : UInt8, c = 97 ∨ c = 98 → runTo isIn ⟨#[c]⟩ 0 = 1 := by
    rintro c (rfl | rfl) <;> rw [runTo_go (by decide) (by decide), runTo_end (by decide)]
  have h2 : ∀ c : UInt8, c = 48 ∨ c = 49 → runTo isIn ⟨#[108, c]⟩ 0 = 2 := by
    rintro c (rfl | rfl) <;> rw [runTo_go (by decide) (by decide), runTo_go (by decide) (by decide), runTo_end (by decide)]
  rcases h with rfl | rfl | rfl | rfl
  · have := h1 97 (.inl rfl); unfold isNameB isNameR nameC nameK; rw [this]; decide
  · have := h1 98 (.inr rfl); unfold isNameB isNameR nameC nameK; rw [this]; decide
  · have := h2 48 (.inl rfl); unfold isNameB isNameR nameC nameK; rw [this]; decide
  · have := h2 49 (.inr rfl); unfold isNameB isNameR nameC nameK; rw [this]; decide
theorem lt_of (a b : ByteArray) (h : Op.bytesLess a.data.toList b.data.toList = true) : ltB a b = true := by
  unfold ltB
  rw [Go.ByteArray.toList_eq, Go.ByteArray.toList_eq]
  exact h
theorem exR_ok : NamesOk exR := by
  refine ⟨by decide, fun i s h => ?_⟩
  match i, h with
  | 0, h => obtain rfl : (⟨#[97]⟩ : ByteArray) = s := by simpa [exR] using h
            exact ⟨by decide, ex_name _ (.inl rfl), lt_of _ _ (by decide)⟩
  | 1, h => obtain rfl : (⟨#[98]⟩ : ByteArray) = s := by simpa [exR] using h
            exact ⟨by decide, ex_name _ (.inr (.inl rfl)), lt_of _ _ (by decide)⟩
  | i + 2, h => simp [exR] at h
theorem exL_ok : NamesOk (exL.map (·.nm)) := by
  refine ⟨by decide, fun i s h => ?_⟩
  match i, h with
  | 0, h => obtain rfl : (⟨#[108, 48]⟩ : ByteArray) = s := by simpa [exL] using h
            exact ⟨by decide, ex_name _ (.inr (.inr (.inl rfl))), lt_of _ _ (by decide)⟩
  | 1, h => obtain rfl : (⟨#[108, 49]⟩ : ByteArray) = s := by simpa [exL] using h
            exact ⟨by decide, ex_name _ (.inr (.inr (.inr rfl))), lt_of _ _ (by decide)⟩
  | i + 2, h => simp [exL] at h
theorem ex_may : MayL 2 exL := by
  intro i l h
  match i, h with
  | 0, h => obtain rfl := Option.some.inj (show some _ = some l from h); decide
  | 1, h => obtain rfl := Option.some.inj (show some _ = some l from h); decide
  | i + 2, h => simp [exL] at h
theorem ex_good : GoodT exR exL := by
  refine ⟨by decide, by decide, ex_may, fun i s t h h' => ?_, fun i l m h h' => ?_⟩
  · match i, h, h' with
    | 0, h, h' =>
      obtain rfl : (⟨#[97]⟩ : ByteArray) = s := by simpa [exR] using h
      obtain rfl : (⟨#[98]⟩ : ByteArray) = t := by simpa [exR] using h'
      exact lt_of _ _ (by decide)
    | i + 1, h, h' => simp [exR] at h'
  · match i, h, h' with
    | 0, h, h' =>
      obtain rfl := Option.some.inj (show some _ = some l from h)
      obtain rfl := Option.some.inj (show some _ = some m from h')
      exact lt_of _ _ (by decide)
    | i + 1, h, h' => simp [exL] at h'
theorem ex_told {d : Int} {o : Bool} (h : Told exL 2 (hasB (ofS [0]).1 (ofS [0]).2) 0 1 d o) : d = 5 ∧ o = true := by
  have h1 : Told exL 2 (hasB (ofS [0]).1 (ofS [0]).2) 0 1 5 true := by
    refine .inl ⟨rfl, ?_, fun d' hw => ?_⟩
    · have := Way.go (ls := exL) (n := 2) (F := hasB (ofS [0]).1 (ofS [0]).2) (a := 0) (.nil (by decide)) (i := 1) (l := ⟨⟨#[108, 49]⟩, 0, 1, 5⟩) rfl (by decide) rfl
      exact this
    · generalize hv : (1 : Int) = v at hw
      cases hw with
      | nil _ => omega
      | @go u d i l hw hi hF hfr =>
        match i, hi with
        | 0, hi => exact absurd hF (by decide)
        | 1, hi =>
          obtain rfl := Option.some.inj (show some _ = some l from hi)
          have hb := hw.bd ex_may
          have := addI_ge 5 d hb.2.1
          rw [addI_comm] at this
          exact this
        | i + 2, hi => simp [exL] at hi
  exact ⟨(h.one h1).1, (h.one h1).2⟩
theorem Awake8_any (w : World) : Calls Tryz.prog 349 #[] w fun e w' => e = .returned (.bool true) ∧ Below w.heap.size w w' := by
  have HA := Lib.hid (awake8_any w)
  go_enter Tryz.func349, Tryz.ntmps349
  go_wp2_with fail
  refine HA.out.mono ?_
  rintro e w' ⟨rfl, hb⟩
  go_wp2_with fail
  go_ret
  exact ⟨rfl, hb⟩
structure AwS (w0 : World) (B : Nat) (vr vl : Value) (rs : List ByteArray) (ls : List Lk) (W : World) : Prop where
  tb : TB w0 B vr vl rs ls W
  han : Handle W
  tab : TabB W
theorem AwS.step {w0 : World} {B : Nat} {vr vl : Value} {rs : List ByteArray} {ls : List Lk} {W W' : World} (h : AwS w0 B vr vl rs ls W) (hb : Below W.heap.size W W') : AwS w0 B vr vl rs ls W' :=
  ⟨h.tb.step hb, h.han.below hb, h.tab.below h.tab.lt hb⟩
theorem ex_start (w : World) (hg : Handle w) (ht : TabB w) : AwS w (w.heap.size + 1 + 1) (.slice (some ⟨w.heap.size, 0, none⟩) 2 2) (.slice (some ⟨w.heap.size + 1, 0, none⟩) 2 2) exR exL
    (((w.alloc (.cells #[.string ⟨#[97]⟩, .string ⟨#[98]⟩] 9)).alloc (.cells #[.string ⟨#[108, 48]⟩, .int .i64 0, .int .i64 1, .int .u64 3, .string ⟨#[108, 49]⟩, .int .i64 0, .int .i64 1, .int .u64 5] 234)).alloc (.cells #[.slice (some ⟨w.heap.size, 0, none⟩) 2 2, .slice (some ⟨w.heap.size + 1, 0, none⟩) 2 2] 99)) := by
  have e1 : (w.alloc (.cells #[.string ⟨#[97]⟩, .string ⟨#[98]⟩] 9)).heap.size = w.heap.size + 1 := World.size_alloc _ _
  have e2 : ((w.alloc (.cells #[.string ⟨#[97]⟩, .string ⟨#[98]⟩] 9)).alloc (.cells #[.string ⟨#[108, 48]⟩, .int .i64 0, .int .i64 1, .int .u64 3, .string ⟨#[108, 49]⟩, .int .i64 0, .int .i64 1, .int .u64 5] 234)).heap.size = w.heap.size + 1 + 1 := by rw [World.size_alloc, e1]
  have hb1 := below_new w (.cells #[.string ⟨#[97]⟩, .string ⟨#[98]⟩] 9)
  have hb2 := below_new (w.alloc (.cells #[.string ⟨#[97]⟩, .string ⟨#[98]⟩] 9)) (.cells #[.string ⟨#[108, 48]⟩, .int .i64 0, .int .i64 1, .int .u64 3, .string ⟨#[108, 49]⟩, .int .i64 0, .int .i64 1, .int .u64 5] 234)
  have hB2 := hb1.trans (hb2.mono hb1.size)
  have hn1 := heap_alloc_new w (.cells #[.string ⟨#[97]⟩, .string ⟨#[98]⟩] 9)
  have hn2 := heap_alloc_new (w.alloc (.cells #[.string ⟨#[97]⟩, .string ⟨#[98]⟩] 9)) (.cells #[.string ⟨#[108, 48]⟩, .int .i64 0, .int .i64 1, .int .u64 3, .string ⟨#[108, 49]⟩, .int .i64 0, .int .i64 1, .int .u64 5] 234)
  rw [e1] at hn2
  have hr : StrsAt (w.alloc (.cells #[.string ⟨#[97]⟩, .string ⟨#[98]⟩] 9)) (.slice (some ⟨w.heap.size, 0, none⟩) 2 2) exR := by
    refine .inr ⟨w.heap.size, 0, 2, rfl, by simp, fun i hi => ?_⟩
    have h2 : exR.length = 2 := rfl
    rw [Lib.cell_of_heap hn1]
    obtain rfl | rfl : i = 0 ∨ i = 1 := by omega
    · rfl
    · rfl
  have hl : LksAt ((w.alloc (.cells #[.string ⟨#[97]⟩, .string ⟨#[98]⟩] 9)).alloc (.cells #[.string ⟨#[108, 48]⟩, .int .i64 0, .int .i64 1, .int .u64 3, .string ⟨#[108, 49]⟩, .int .i64 0, .int .i64 1, .int .u64 5] 234)) (.slice (some ⟨w.heap.size + 1, 0, none⟩) 2 2) exL := by
    refine .inr ⟨w.heap.size + 1, 0, 2, rfl, by rw [e2]; omega, fun i l hi => ?_⟩
    rw [Lib.cell_of_heap hn2, Lib.cell_of_heap hn2, Lib.cell_of_heap hn2, Lib.cell_of_heap hn2]
    match i, hi with
    | 0, hi => obtain rfl := Option.some.inj (show some _ = some l from hi); exact ⟨rfl, rfl, rfl, rfl⟩
    | 1, hi => obtain rfl := Option.some.inj (show some _ = some l from hi); exact ⟨rfl, rfl, rfl, rfl⟩
    | i + 2, hi => simp [exL] at hi
  have hT : TpAt _ _ _ exR exL := ⟨hr.keep hb2, hl⟩
  have hB := TB.start hT
  rw [e2] at hB
  have hb3 := below_new ((w.alloc (.cells #[.string ⟨#[97]⟩, .string ⟨#[98]⟩] 9)).alloc (.cells #[.string ⟨#[108, 48]⟩, .int .i64 0, .int .i64 1, .int .u64 3, .string ⟨#[108, 49]⟩, .int .i64 0, .int .i64 1, .int .u64 5] 234)) (.cells #[.slice (some ⟨w.heap.size, 0, none⟩) 2 2, .slice (some ⟨w.heap.size + 1, 0, none⟩) 2 2] 99)
  have hB3 := hB2.trans (hb3.mono hB2.size)
  exact ⟨⟨hB.lt, hB.c0, hB.c1, hB.tp, hB3⟩, hg.below hB3, ht.below ht.lt hB3⟩
set_option maxRecDepth 100000 in
set_option maxHeartbeats 8000000 in
theorem awake11_any (w : World) (hg : Handle w) (ht : TabB w) : Calls Tryz.prog 317 #[] w fun e w' => e = .returned (.bool true) ∧ Below w.heap.size w w' := by
  have HS := Lib.hid (ex_start w hg ht)
  have HO := Lib.hid (fun (W : World) (v : Value) (h : IntsAt W v [0]) => of_any [0] v W h (by decide))
  have HLe := Lib.hid (fun W (h : TpAt W (.slice (some ⟨w.heap.size, 0, none⟩) 2 2) (.slice (some ⟨w.heap.size + 1, 0, none⟩) 2 2) exR exL) (h2 : TabB W) => least_any 0 1 _ _ (ofS_u64 [0]).1 (ofS_u64 [0]).2 _ _ exR exL W h ex_may (by decide) (by decide) h2)
  have HCk := Lib.hid (fun W (h : TpAt W (.slice (some ⟨w.heap.size, 0, none⟩) 2 2) (.slice (some ⟨w.heap.size + 1, 0, none⟩) 2 2) exR exL) => tpCheck_ok _ _ exR exL W h ex_good exR_ok exL_ok)
  have HTo := Lib.hid (fun d o (h : Told exL 2 (hasB (ofS [0]).1 (ofS [0]).2) 0 1 d o) => ex_told h)
  clear hg ht
  obtain ⟨f1, hf1⟩ : ∃ f, (ofS [0]).1 = f := ⟨_, rfl⟩
  obtain ⟨f2, hf2⟩ : ∃ f, (ofS [0]).2 = f := ⟨_, rfl⟩
  rw [hf1, hf2] at HO HLe HTo
  clear hf1 hf2
  go_enter Tryz.func317, Tryz.ntmps317
  go_wp2_with fail
  have hI := HS.out.step (Below.refl _ _).drew
  clear HS
  generalize (((w.alloc (.cells #[.string ⟨#[97]⟩, .string ⟨#[98]⟩] 9)).alloc (.cells #[.string ⟨#[108, 48]⟩, .int .i64 0, .int .i64 1, .int .u64 3, .string ⟨#[108, 49]⟩, .int .i64 0, .int .i64 1, .int .u64 5] 234)).alloc (.cells #[.slice (some ⟨w.heap.size, 0, none⟩) 2 2, .slice (some ⟨w.heap.size + 1, 0, none⟩) 2 2] 99)) = w1 at *
  have k0 := hI.tb.c0
  have k1 := hI.tb.c1
  go_region_held3 (fun w' => w'.cell? ⟨w.heap.size + 1 + 1, 0, none⟩ = some (.slice (some ⟨w.heap.size, 0, none⟩) 2 2) ∧ w'.cell? ⟨w.heap.size + 1 + 1, 1, none⟩ = some (.slice (some ⟨w.heap.size + 1, 0, none⟩) 2 2))
    (first | exact ⟨k0, k1⟩ | exact ⟨hI.tb.c0, hI.tb.c1⟩ | exact ⟨(hI.step (below_new _ _)).tb.c0, (hI.step (below_new _ _)).tb.c1⟩ | go_keep)
    (first
    | (go_at_call 21; refine (HO.out _ _ ((ints_new _ 0).step (Below.refl _ _).drew)).mono ?_; rintro e w2 ⟨rfl, b2⟩; replace hI := (hI.step (below_new _ (.cells #[.int .i64 0] 3))).step b2)
    | (go_at_call 348; refine (HLe.out _ hI.tb.tp hI.tab).mono ?_; rintro e w3 ⟨d, o, rfl, htold, b3⟩; replace hI := hI.step b3))
  obtain ⟨rfl, rfl⟩ := HTo.out d o htold
  have HI := Lib.hid hI
  clear hI htold HTo HLe HO k0 k1
  go_wp2_with fail
  refine (Awake1_any _ HI.out.han).mono ?_
  rintro e w4 ⟨rfl, b4⟩
  have HI0 := Lib.hid (HI.out.step b4)
  clear b4 HI
  go_wp2_with fail
  refine (Awake2_any _ HI0.out.han).mono ?_
  rintro e w4 ⟨rfl, b4⟩
  have HI1 := Lib.hid (HI0.out.step b4)
  clear b4 HI0
  go_wp2_with fail
  refine (Awake3_any _ HI1.out.han).mono ?_
  rintro e w4 ⟨rfl, b4⟩
  have HI2 := Lib.hid (HI1.out.step b4)
  clear b4 HI1
  go_wp2_with fail
  refine (Awake7_any _ HI2.out.tab).mono ?_
  rintro e w4 ⟨rfl, b4⟩
  have HI3 := Lib.hid (HI2.out.step b4)
  clear b4 HI2
  go_wp2_with fail
  refine (Awake8_any _).mono ?_
  rintro e w4 ⟨rfl, b4⟩
  have HI4 := Lib.hid (HI3.out.step b4)
  clear b4 HI3
  have k0 := HI4.out.tb.c0
  have k1 := HI4.out.tb.c1
  go_wp2_with fail
  refine (HCk.out _ HI4.out.tb.tp).mono ?_
  rintro e w5 ⟨rfl, b5⟩
  have HI9 := Lib.hid (HI4.out.step b5)
  clear b5 k0 k1
  go_wp2_with fail
  go_ret
  exact ⟨rfl, HI9.out.tb.below⟩
end Go.Proofs.YtbhkfifmgbcknaaGreatDoor
namespace Go.Proofs.YtbhkfifmgbcknaaGreatDoor.Ex
open Go Go.RowKit
def small13 : ByteArray := ⟨#[123, 34, 114, 111, 117, 116, 101, 114, 115, 34, 58, 91, 34, 97, 34, 44, 34, 98, 34, 93, 44, 34, 108, 97, 98, 101, 108, 115, 34, 58, 123, 34, 115, 34, 58, 34, 115, 109, 112, 108, 115, 34, 44, 34, 120, 34, 58, 34, 105, 112, 34, 125, 44, 34, 108, 105, 110, 107, 115, 34, 58, 123, 34, 108, 48, 34, 58, 123, 34, 102, 114, 111, 109, 34, 58, 34, 97, 34, 44, 34, 116, 111, 34, 58, 34, 98, 34, 44, 34, 100, 105, 115, 116, 34, 58, 51, 125, 44, 34, 108, 49, 34, 58, 123, 34, 102, 114, 111, 109, 34, 58, 34, 98, 34, 44, 34, 116, 111, 34, 58, 34, 97, 34, 44, 34, 100, 105, 115, 116, 34, 58, 53, 125, 125, 44, 34, 116, 97, 98, 108, 101, 34, 58, 91, 123, 34, 105, 110, 34, 58, 34, 108, 48, 34, 44, 34, 116, 111, 112, 34, 58, 34, 120, 34, 44, 34, 103, 114, 111, 117, 112, 115, 34, 58, 91, 91, 123, 34, 111, 117, 116, 34, 58, 34, 108, 49, 34, 44, 34, 111, 112, 115, 34, 58, 91, 34, 112, 117, 115, 104, 32, 115, 34, 93, 125, 93, 93, 125, 93, 125]⟩
noncomputable def hooks0 : List (FuncId × Caller) := [(142, hAs), (322, hIs), (57, hFirst), (307, hIB), (263, hCopy), (317, hYes), (25, hList), (243, hClone), (264, hCloneS), (352, hSorted)]
noncomputable def hk0 : Hook := hkOf hooks0
theorem hooks0_ok : HsOk Tryz.prog NG hooks0 :=
  ⟨hAs_ok, hIs_ok, hFirst_ok, hIB_ok, hCopyOk, hYes_ok fun w hk => awake11_any w hk.1 hk.2, hList_ok, hClone_ok, hCloneS_ok, hSorted_ok, trivial⟩
theorem noNum_prog : noNum Tryz.prog = true := by kernel_rfl
theorem mixed_prog : (Tryz.prog).follows .mixedOrders = true := by kernel_rfl
noncomputable abbrev runs (hk : Hook) (f : FuncId) (args : List Value) (pre : List (Nat × Ent)) (n0 : Nat) : Option (Value × H) := callWith Tryz.prog hk (exec Tryz.prog NG hk 20000) f args ⟨tabG pre, n0⟩
end Go.Proofs.YtbhkfifmgbcknaaGreatDoor.Ex
namespace Go.Proofs.YtbhkfifmgbcknaaGreatDoor
open Go.ChangeShapes Go.WideShapes Go.ChangeAt Go.RowKit
theorem Tryz.own : ownKnob Tryz.prog.godebug = none := by kernel_rfl
theorem Tryz.laidOut : laidOutB Tryz.prog = true := by kernel_rfl
theorem tab_data : (Rows.laid_math_bits_deBruijn64tab : DataW Unit) = Lib.tabData .u8 (Lib.deBruijn64tab.map Int.ofNat) := by kernel_rfl
theorem tabGlobal : Tryz.prog.globalNamed "math/bits.deBruijn64tab" = some 0 := by kernel_rfl
theorem tabType : (Tryz.prog.globals[0]?).map (·.type) = some 140 := by kernel_rfl
theorem tabCells : Tryz.prog.cellsOf 140 = 64 := by kernel_rfl
theorem tabCell : Tryz.prog.cellsOf 5 = 1 := by kernel_rfl
noncomputable def laidWorldT (os : Os) : World := World.doorLaid Tryz.prog 400 os
section
variable {H : Type} {enc : TypeId × Value → H}
theorem trodAll_below {W W' : World} (hb : Below W.heap.size W W') : ∀ {ts : List TypeId} {vs : List Value} {ds : List (DataW H)} {ps : List MemPlace},
    (∀ t ∈ ts, Tryz.prog.readableRec t = true ∧ t < Tryz.prog.types.size) → DataW.TrodAll enc Tryz.prog W 0 (fun _ => true) true ts vs ds ps → (∀ x ∈ ps, x.block < W.heap.size) →
    DataW.TrodAll enc Tryz.prog W' 0 (fun b => decide (b < W.heap.size)) true ts vs ds ps
  | [], [], [], _, _, h, _ => h
  | [], _ :: _, _, _, _, h, _ => h.elim
  | [], [], _ :: _, _, _, h, _ => h.elim
  | _ :: _, [], _, _, _, h, _ => h.elim
  | _ :: _, _ :: _, [], _, _, h, _ => h.elim
  | t :: ts, v :: vs, d :: ds, _, hr, ⟨p, q, h1, h2, e⟩, hlt => by
    subst e
    exact ⟨p, q, Below.trod Tryz.laidOut (hr t (by simp)).1 (hr t (by simp)).2 h1 hb (fun x hx => hlt x (by simp [hx])), trodAll_below hb (fun t' ht => hr t' (by simp [ht])) h2 (fun x hx => hlt x (by simp [hx])), rfl⟩
theorem law_post {f : Func} {s : ChangeSpec} {W W' : World} {args : Array Value} {ds gs : List (DataW H)} {ps : List MemPlace} (hres : f.resultTypes = #[4]) (hvars : s.vars = [])
    (hts : ∀ t ∈ f.params.toList, Tryz.prog.readableRec t = true ∧ t < Tryz.prog.types.size)
    (hW : DataW.Whole enc Tryz.prog f.params.toList s.vars false W args.toList ds gs ps) (hb : Below W.heap.size W W')
    (er : (s.fn H ds).results = [.lit (.bool true)]) (ea : (s.fn H ds).args = ds) (ev : (s.fn H ds).vars = []) :
    s.post enc Tryz.prog f false true false false W args (.bool true) W' := by
  have hW' := hW
  obtain ⟨p, q, hA, hV, rfl, hfz, hnd⟩ := hW
  have hlt : ∀ x ∈ p, x.block < W.heap.size := fun x hx => hW'.lt x (by simp [hx])
  have hg : gs = [] := by rw [hvars] at hV; exact (trodVars_none hV).1
  subst hg
  have e0 : ds ++ [] = ds := List.append_nil ds
  refine ⟨ds, [], _, [] ++ [], p, [], hW', ?_, ?_, ?_, hb.frame _, fun h => by cases h⟩
  · rw [e0, er, hres]; exact trodAll_mk1 (shut_bool Tryz.underlying4 true)
  · rw [e0, ea]; exact trodAll_below hb hts hA hlt
  · rw [e0, ev, hvars]; rfl
end
end Go.Proofs.YtbhkfifmgbcknaaGreatDoor
namespace Go.Proofs.YtbhkfifmgbcknaaGreatDoor
open Go.ChangeShapes Go.WideShapes Go.ChangeAt Go.RowKit
theorem Tryz.et : Tryz.prog.globalNamed "errors.errorType" = some 1 := by kernel_rfl
theorem Tryz.rt : (Tryz.prog.cutTypes.find? (·.1 == "internal/reflectlite.rtype")).map (·.2) = some 322 := by kernel_rfl
theorem Tryz.oneRow : ((List.range 480).filter fun t => Tryz.prog.rowNamed t [101, 114, 114, 111, 114]) = [94] := by kernel_rfl
theorem Tryz.size : Tryz.prog.types.size = 480 := by kernel_rfl
theorem handle_of_met {W : World} {l : List (String × DataW Unit)} (hm : ("errors.errorType", (Rows.laid_errors_errorType : DataW Unit)) ∈ l) (h : handlesMet Tryz.prog l W) : Handle W := by
  obtain ⟨name, u, ty, e1, e2, e3, e4, e5⟩ := h _ hm
  have en : name = [101, 114, 114, 111, 114] := (Option.some.inj e1).symm
  subst en
  obtain rfl := Option.some.inj (Tryz.rt.symm.trans e2)
  have hmem : ty ∈ (List.range 480).filter fun t => Tryz.prog.rowNamed t [101, 114, 114, 111, 114] := List.mem_filter.2 ⟨List.mem_range.2 (by rw [← Tryz.size]; exact e3), e4⟩
  rw [Tryz.oneRow] at hmem
  obtain rfl := List.mem_singleton.1 hmem
  have hh : typeHandle Tryz.prog 94 = .pointer (some ⟨5, 94, none⟩) := by kernel_rfl
  rw [hh] at e5
  have := World.var?_cell Tryz.et e5 0
  simpa [Handle] using this
end Go.Proofs.YtbhkfifmgbcknaaGreatDoor
namespace Go.Proofs.YtbhkfifmgbcknaaGreatDoor
open Go.RowKit Go.Sort Go.Lib
theorem below_grow (w : World) (os : Array Obj) : Below w.heap.size w (grow w os) :=
  ⟨rfl, rfl, rfl, by simp, fun k hk => heap_grow_old w os hk⟩
def Tab (w : World) : Prop := Lib.TabIs Tryz.prog w "internal/strconv.uint64pow10" .u64 Lib.pow10Tab
theorem powGlobal : Tryz.prog.globalNamed "internal/strconv.uint64pow10" = some 3 := by kernel_rfl
theorem Tab.lt {w : World} (h : Tab w) : 3 < w.heap.size := by
  unfold Tab Lib.TabIs World.var? at h
  rw [powGlobal] at h
  rcases Nat.lt_or_ge 3 w.heap.size with h' | h'
  · exact h'
  · rw [Option.bind_some, Array.getElem?_eq_none h'] at h; simp at h
theorem Tab.below {w w' : World} (h : Tab w) (hb : Below w.heap.size w w') : Tab w' := by
  have hl := h.lt
  unfold Tab Lib.TabIs World.var? at *
  rw [powGlobal] at *
  rw [Option.bind_some] at *
  rw [hb.block _ hl]
  exact h
end Go.Proofs.YtbhkfifmgbcknaaGreatDoor
namespace Go.Proofs.YtbhkfifmgbcknaaGreatDoor
open Go.ChangeShapes Go.WideShapes Go.ChangeAt Go.RowKit
def loneQ : List (String × DataW Unit) := [("math/bits.deBruijn32tab", Rows.laid_math_bits_deBruijn32tab), ("math/bits.deBruijn64tab", Rows.laid_math_bits_deBruijn64tab), ("internal/strconv.uint64pow10", Rows.laid_internal_strconv_uint64pow10), ("errors.errorType", Rows.laid_errors_errorType)]
theorem handle_of_laidQ {W : World} (h : laidMetH Tryz.prog loneQ W) : Handle W := by
  have h' : laidMet Tryz.prog (loneQ.take 3) W ∧ handlesMet Tryz.prog [("errors.errorType", Rows.laid_errors_errorType)] W := h
  exact handle_of_met (List.mem_singleton.2 rfl) h'.2
theorem tab_of_laidQ {W : World} (h : laidMetH Tryz.prog loneQ W) : TabB W := by
  have h' : laidMet Tryz.prog (loneQ.take 3) W ∧ handlesMet Tryz.prog [("errors.errorType", Rows.laid_errors_errorType)] W := h
  obtain ⟨ps, ⟨_, _, _, _, _, _, _, _, _, _, ⟨g, t, cs, fuel, p, q, hg, ht, hvar, hd, _, _⟩, _⟩, _⟩ := h'.1
  obtain rfl := Option.some.inj (tabGlobal.symm.trans hg)
  obtain rfl := Option.some.inj (tabType.symm.trans ht)
  rw [tab_data] at hd
  have hs : Lib.TabIs Tryz.prog W "math/bits.deBruijn64tab" .u8 (Lib.deBruijn64tab.map Int.ofNat) := by
    unfold Lib.TabIs
    rw [hvar, ← Lib.cells_of_tab Tryz.underlying140 Tryz.underlying5 tabCell tabCells hd]
  unfold Lib.TabIs at hs
  have hc := fun i => World.var?_cell tabGlobal hs i
  refine ⟨?_, fun j hj => ?_⟩
  · have := hc 0
    exact World.block_lt_of_cell? W ⟨0, 0, none⟩ (this.trans rfl)
  · have := hc j
    rw [this]
    simp [hj]
theorem laidWorldT_metQ (os : Os) (args : Array Value) : laidMetH Tryz.prog loneQ ((laidWorldT os).forCall (fun _ _ => 0) ⟨#[], args, []⟩).memory :=
  laidMetH_of_parts3 (fuel := 8) (laidMet_of_run' 8 (by kernel_rfl) (by kernel_rfl)) (by kernel_rfl) (by kernel_rfl)
end Go.Proofs.YtbhkfifmgbcknaaGreatDoor
