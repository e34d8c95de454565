/-
  A part of the proof of the statement NfaAccepts.
-/
import Derived.Test.YtbhkfifmgbcknaaGreatDoorG05
set_option linter.unusedSimpArgs false
set_option linter.unusedVariables false
namespace Go.Proofs.YtbhkfifmgbcknaaGreatDoor
open Go.RowKit Go.Extern.Stop Go.Stop Go.Extern
inductive Base where
  | errno (c : Int)
  | fault (b : Nat) (c at_ : Int)
  | other (b : Nat)
def Root (B : Nat) (w : World) : Base → Value → Prop
  | .errno c, v => v = .iface 128 (.int .i64 c)
  | .fault b c a, v => v = .iface 154 (.pointer (some ⟨b, 0, none⟩)) ∧ b < B ∧ w.cell? ⟨b, 0, none⟩ = some (.int .i64 c) ∧ w.cell? ⟨b, 1, none⟩ = some (.int .i64 a)
  | .other _, _ => False
def Chain (B : Nat) (w : World) (r : Base) : List ByteArray → Value → Prop
  | [], v => Root B w r v
  | s :: l, v => ∃ b u, v = .iface 167 (.pointer (some ⟨b, 0, none⟩)) ∧ b < B ∧ w.cell? ⟨b, 0, none⟩ = some (.string s) ∧ w.cell? ⟨b, 1, none⟩ = some u ∧ Chain B w r l u
theorem Root.keep {B : Nat} {w w' : World} {r : Base} {v : Value} (h : Root B w r v) (hb : Below B w w') : Root B w' r v := by
  cases r with
  | errno c => exact h
  | fault b c a => exact ⟨h.1, h.2.1, (hb.cell (p := ⟨b, 0, none⟩) h.2.1).trans h.2.2.1, (hb.cell (p := ⟨b, 1, none⟩) h.2.1).trans h.2.2.2⟩
  | other b => exact h
theorem Chain.keep {B : Nat} {w w' : World} {r : Base} (hb : Below B w w') : ∀ {l : List ByteArray} {v : Value}, Chain B w r l v → Chain B w' r l v
  | [], _, h => Root.keep h hb
  | _ :: _, _, ⟨b, u, e, hlt, h0, h1, hr⟩ => ⟨b, u, e, hlt, (hb.cell (p := ⟨b, 0, none⟩) hlt).trans h0, (hb.cell (p := ⟨b, 1, none⟩) hlt).trans h1, Chain.keep hb hr⟩
theorem Root.up {B B' : Nat} {w : World} {r : Base} {v : Value} (hB : B ≤ B') (h : Root B w r v) : Root B' w r v := by
  cases r with
  | errno c => exact h
  | fault b c a => exact ⟨h.1, Nat.lt_of_lt_of_le h.2.1 hB, h.2.2⟩
  | other b => exact h
theorem Chain.up {B B' : Nat} {w : World} {r : Base} (hB : B ≤ B') : ∀ {l : List ByteArray} {v : Value}, Chain B w r l v → Chain B' w r l v
  | [], _, h => Root.up hB h
  | _ :: _, _, ⟨b, u, e, hlt, h0, h1, hr⟩ => ⟨b, u, e, Nat.lt_of_lt_of_le hlt hB, h0, h1, Chain.up hB hr⟩
theorem Chain.iface {B : Nat} {w : World} {r : Base} {ws : List ByteArray} {v : Value} (h : Chain B w r ws v) : ∃ T V, v = .iface T V := by
  cases ws with
  | nil => cases r with
    | errno c => exact ⟨_, _, h⟩
    | fault b c a => exact ⟨_, _, h.1⟩
    | other b => exact h.elim
  | cons s l => obtain ⟨b, u, e, _⟩ := h; exact ⟨_, _, e⟩
def Base.code : Base → Option Int
  | .errno c => some c
  | .fault _ c _ => some c
  | .other _ => none
def Sets (w : World) (t : Addr) (x : Value) (w' : World) : Prop := ∃ w1, Below w.heap.size w w1 ∧ w' = w1.setCell t x
theorem as_nil (t : Value) (w : World) :
    Calls Tryz.prog 142 #[.nilIface, t] w fun e w' => e = .returned (.bool false) ∧ w' = w := by
  go_enter Tryz.func142, Tryz.ntmps142
  go_wp2
  go_ret
  exact ⟨rfl, rfl⟩
def LoopW (w : World) (t : Addr) (P : TypeId) : World := ((w.alloc (.cells #[.pointer (some t)] P)).alloc (.cells #[.pointer (some ⟨5, P, none⟩), .pointer (some ⟨w.heap.size, 0, none⟩), .int .u64 150] 270)).alloc (.cells #[.pointer (some ⟨5, P, none⟩), .pointer (some ⟨w.heap.size, 0, none⟩), .int .u64 150] 270)
theorem LoopW.below (w : World) (t : Addr) (P : TypeId) : Below w.heap.size w (LoopW w t P) :=
  (((Below.refl _ _).alloc (Nat.le_refl _) _).alloc (by simp) _).alloc (by simp; omega) _
def NumRel (B : Nat) (w1 : World) (r : Base) (c : Int) (k : Nat) (v : Value) : Prop :=
  (∃ ws, k = ws.length + 1 ∧ Chain B w1 r ws v) ∨ (k = 0 ∧ v = .iface 128 (.int .i64 c))
set_option maxRecDepth 100000 in
set_option maxHeartbeats 4000000 in
theorem as_code (B : Nat) (r : Base) (c : Int) (hr : r.code = some c) (ws : List ByteArray) (v : Value) (t : Addr) (old : Value) (w : World) (hB : B ≤ w.heap.size) (hch : Chain B w r ws v)
    (hg : w.cell? ⟨1, 0, none⟩ = some (.iface 322 (.agg #[.pointer (some ⟨5, 94, none⟩)]))) (ht0 : w.cell? t = some old) (hf0 : w.frozen? t = false) :
    Calls Tryz.prog 142 #[v, .iface 203 (.pointer (some t))] w fun ev w' => ev = .returned (.bool true) ∧ Sets w t (.int .i64 c) w' := by
  obtain ⟨T, V, rfl⟩ := hch.iface
  have h6 := @run_callFunc_extern Tryz.prog 200 _ (fun args => ReflectliteValue.unpack (args.getD 0 (.tuple #[]))) Tryz.func200 (by kernel_rfl) (by kernel_rfl) (by kernel_rfl) (by kernel_rfl)
  have h7 := @run_callFunc_extern Tryz.prog 201 _ (ReflectliteValue.methodAny (ReflectliteValue.valueError "reflectlite.Value.Type" 0) (fun t _ _ _ => ReflectliteType.toType t)) Tryz.func201 (by kernel_rfl) (by kernel_rfl) (by kernel_rfl) (by kernel_rfl)
  have h8 := @run_callFunc_extern Tryz.prog 202 _ (ReflectliteValue.method (ReflectliteValue.valueError "reflectlite.Value.IsNil" 0) ReflectliteValue.isNil) Tryz.func202 (by kernel_rfl) (by kernel_rfl) (by kernel_rfl) (by kernel_rfl)
  have h27 := @run_callFunc_extern Tryz.prog 425 _ (ReflectliteType.abiMethod fun t => do pure (.int .u8 (← Rtype.kind t))) Tryz.func425 (by kernel_rfl) (by kernel_rfl) (by kernel_rfl) (by kernel_rfl)
  have h37 := @run_callFunc_extern Tryz.prog 440 _ (ReflectliteType.method ReflectliteType.elem) Tryz.func440 (by kernel_rfl) (by kernel_rfl) (by kernel_rfl) (by kernel_rfl)
  have h38 := @run_callFunc_extern Tryz.prog 441 _ (ReflectliteType.relation "Implements" ReflectliteType.implements_) Tryz.func441 (by kernel_rfl) (by kernel_rfl) (by kernel_rfl) (by kernel_rfl)
  have h10 := @run_callFunc_extern Tryz.prog 258 _ ReflectliteType.typeOf Tryz.func258 (by kernel_rfl) (by kernel_rfl) (by kernel_rfl) (by kernel_rfl)
  have h35 := @run_callFunc_extern Tryz.prog 438 _ (ReflectliteType.relation "AssignableTo" ReflectliteType.assignableTo) Tryz.func438 (by kernel_rfl) (by kernel_rfl) (by kernel_rfl) (by kernel_rfl)
  have h11 := @run_callFunc_extern Tryz.prog 259 _ (ReflectliteValue.method (ReflectliteValue.valueError "reflectlite.Value.Elem" 0) ReflectliteValue.elem) Tryz.func259 (by kernel_rfl) (by kernel_rfl) (by kernel_rfl) (by kernel_rfl)
  have h12 := @run_callFunc_extern Tryz.prog 260 _ ReflectliteValue.set Tryz.func260 (by kernel_rfl) (by kernel_rfl) (by kernel_rfl) (by kernel_rfl)
  have f6 := valueOfPErrno
  have f7 := typePErrno
  have mK := methodKind
  have mE := methodElem
  have mI := methodImplements
  have mA := methodAssignableTo
  have kP := kindPErrno
  have kE := kindErrno
  have eP := elemPErrno
  have iE := implementsErrno
  have n8 := isNilPErrno ⟨w.heap.size, 0, none⟩ t ((w.alloc (.cells #[.pointer (some t)] 203)).alloc (.cells #[.pointer (some ⟨5, 203, none⟩), .pointer (some ⟨w.heap.size, 0, none⟩), .int .u64 150] 270)) (by simp)
  have hlt : 1 < w.heap.size := World.block_lt_of_cell? w ⟨1, 0, none⟩ hg
  have hg2 : ((w.alloc (.cells #[.pointer (some t)] 203)).alloc (.cells #[.pointer (some ⟨5, 203, none⟩), .pointer (some ⟨w.heap.size, 0, none⟩), .int .u64 150] 270)).cell? ⟨1, 0, none⟩ = some (.iface 322 (.agg #[.pointer (some ⟨5, 94, none⟩)])) := by
    rw [World.cell?_alloc_lt _ _ ⟨1, 0, none⟩ (by rw [World.size_alloc]; exact Nat.lt_succ_of_lt hlt), World.cell?_alloc_lt _ _ ⟨1, 0, none⟩ hlt]; exact hg
  have tOErrno := typeOfErrno
  have tOPFault := typeOfPFault
  have tOPPlace := typeOfPPlace
  have nAErrno := noAsErrno
  have nAPFault := noAsPFault
  have nAPPlace := noAsPPlace
  have nSErrno := noUnwsErrno
  have nUErrno := noUnwErrno
  have hUPFault := hasUnwPFault
  have hUPPlace := hasUnwPPlace
  have mUPFault := methodUnwPFault
  have mUPPlace := methodUnwPPlace
  have uaPFault := unassignablePFaultErrno
  have uaPPlace := unassignablePPlaceErrno
  have asE := assignableErrno
  have vE := valueOfErrno
  have htl : t.block < w.heap.size := by
    rcases Nat.lt_or_ge t.block w.heap.size with h | h
    · exact h
    · simp [World.cell?, Array.getElem?_eq_none h] at ht0
  have el := elemVPErrno ⟨w.heap.size, 0, none⟩ t (((w.alloc (.cells #[.pointer (some t)] 203)).alloc (.cells #[.pointer (some ⟨5, 203, none⟩), .pointer (some ⟨w.heap.size, 0, none⟩), .int .u64 150] 270)).alloc (.cells #[.pointer (some ⟨5, 203, none⟩), .pointer (some ⟨w.heap.size, 0, none⟩), .int .u64 150] 270)) (by rw [World.cell?_alloc_lt _ _ ⟨w.heap.size, 0, none⟩ (by simp; omega)]; simp)
  have st := setErrno t ⟨w.heap.size + 1 + 1 + 1, 0, none⟩ (c) old ((((w.alloc (.cells #[.pointer (some t)] 203)).alloc (.cells #[.pointer (some ⟨5, 203, none⟩), .pointer (some ⟨w.heap.size, 0, none⟩), .int .u64 150] 270)).alloc (.cells #[.pointer (some ⟨5, 203, none⟩), .pointer (some ⟨w.heap.size, 0, none⟩), .int .u64 150] 270)).alloc (.cells #[.int .i64 c] 128))
    (by rw [World.cell?_alloc_at _ _ _ _ (by simp)]; rfl)
    (by rw [World.cell?_alloc_lt _ _ t (by simp; omega), World.cell?_alloc_lt _ _ t (by simp; omega), World.cell?_alloc_lt _ _ t (by simp; omega), World.cell?_alloc_lt _ _ t htl]; exact ht0)
    (by rw [World.frozen?_alloc_old _ _ t (by simp; omega), World.frozen?_alloc_old _ _ t (by simp; omega), World.frozen?_alloc_old _ _ t (by simp; omega), World.frozen?_alloc_old _ _ t (Nat.ne_of_lt htl)]; exact hf0)
  have hchl : Chain B (LoopW w t 203) r ws (.iface T V) := Chain.keep ((LoopW.below w t 203).mono hB) hch
  have HR := Lib.hid hr
  clear hr
  have HC := Lib.hid hchl
  clear hchl hch
  go_enter Tryz.func142, Tryz.ntmps142
  go_wp2
  go_loopg [0] (ws.length + 1) (fun k v' wr => wr = LoopW w t 203 ∧ NumRel B wr r c k v')
  case atStart => exact ⟨rfl, Or.inl ⟨ws, rfl, HC.out⟩⟩
  case round =>
    obtain ⟨hwr, hrel⟩ := hrel
    unfold LoopW at hwr
    subst hwr
    rcases hrel with ⟨l, hk, hl⟩ | ⟨hk, rfl⟩
    · have HK := Lib.hid hk
      clear hk
      cases l with
      | nil =>
        cases r with
        | errno c' =>
          obtain rfl : c = c' := (Option.some.inj HR.out).symm
          obtain rfl := hl
          go_wp2
          go_ret
          exact ⟨rfl, _, (LoopW.below w t 203).alloc (by simp [LoopW]; omega) _, rfl⟩
        | fault b c' a =>
          obtain rfl : c = c' := (Option.some.inj HR.out).symm
          obtain ⟨rfl, hb, h0, h1⟩ := hl
          go_wp2
          go_roundg 0
          case measure => have := HK.out; omega
          case rel => exact ⟨rfl, Or.inr ⟨rfl, rfl⟩⟩
        | other b => exact absurd HR.out (by intro h; cases h)
      | cons s l =>
        obtain ⟨b, u, rfl, hb, h0, h1, hr⟩ := hl
        obtain ⟨Tu, Vu, rfl⟩ := hr.iface
        have HT := Lib.hid hr
        clear hr
        go_wp2
        go_roundg (l.length + 1)
        case measure => have := HK.out; simp at this; omega
        case rel => exact ⟨rfl, Or.inl ⟨l, rfl, HT.out⟩⟩
    · go_wp2
      go_ret
      exact ⟨rfl, _, (LoopW.below w t 203).alloc (by simp [LoopW]; omega) _, rfl⟩
set_option maxRecDepth 100000 in
set_option maxHeartbeats 4000000 in
theorem as_fault (B : Nat) (fb : Nat) (fc fa : Int) (ws : List ByteArray) (v : Value) (t : Addr) (old : Value) (w : World) (hB : B ≤ w.heap.size) (hch : Chain B w (.fault fb fc fa) ws v)
    (hg : w.cell? ⟨1, 0, none⟩ = some (.iface 322 (.agg #[.pointer (some ⟨5, 94, none⟩)]))) (ht0 : w.cell? t = some old) (hf0 : w.frozen? t = false) :
    Calls Tryz.prog 142 #[v, .iface 204 (.pointer (some t))] w fun ev w' => ev = .returned (.bool true) ∧ Sets w t (.pointer (some ⟨fb, 0, none⟩)) w' := by
  obtain ⟨T, V, rfl⟩ := hch.iface
  have h6 := @run_callFunc_extern Tryz.prog 200 _ (fun args => ReflectliteValue.unpack (args.getD 0 (.tuple #[]))) Tryz.func200 (by kernel_rfl) (by kernel_rfl) (by kernel_rfl) (by kernel_rfl)
  have h7 := @run_callFunc_extern Tryz.prog 201 _ (ReflectliteValue.methodAny (ReflectliteValue.valueError "reflectlite.Value.Type" 0) (fun t _ _ _ => ReflectliteType.toType t)) Tryz.func201 (by kernel_rfl) (by kernel_rfl) (by kernel_rfl) (by kernel_rfl)
  have h8 := @run_callFunc_extern Tryz.prog 202 _ (ReflectliteValue.method (ReflectliteValue.valueError "reflectlite.Value.IsNil" 0) ReflectliteValue.isNil) Tryz.func202 (by kernel_rfl) (by kernel_rfl) (by kernel_rfl) (by kernel_rfl)
  have h27 := @run_callFunc_extern Tryz.prog 425 _ (ReflectliteType.abiMethod fun t => do pure (.int .u8 (← Rtype.kind t))) Tryz.func425 (by kernel_rfl) (by kernel_rfl) (by kernel_rfl) (by kernel_rfl)
  have h37 := @run_callFunc_extern Tryz.prog 440 _ (ReflectliteType.method ReflectliteType.elem) Tryz.func440 (by kernel_rfl) (by kernel_rfl) (by kernel_rfl) (by kernel_rfl)
  have h38 := @run_callFunc_extern Tryz.prog 441 _ (ReflectliteType.relation "Implements" ReflectliteType.implements_) Tryz.func441 (by kernel_rfl) (by kernel_rfl) (by kernel_rfl) (by kernel_rfl)
  have h10 := @run_callFunc_extern Tryz.prog 258 _ ReflectliteType.typeOf Tryz.func258 (by kernel_rfl) (by kernel_rfl) (by kernel_rfl) (by kernel_rfl)
  have h35 := @run_callFunc_extern Tryz.prog 438 _ (ReflectliteType.relation "AssignableTo" ReflectliteType.assignableTo) Tryz.func438 (by kernel_rfl) (by kernel_rfl) (by kernel_rfl) (by kernel_rfl)
  have h11 := @run_callFunc_extern Tryz.prog 259 _ (ReflectliteValue.method (ReflectliteValue.valueError "reflectlite.Value.Elem" 0) ReflectliteValue.elem) Tryz.func259 (by kernel_rfl) (by kernel_rfl) (by kernel_rfl) (by kernel_rfl)
  have h12 := @run_callFunc_extern Tryz.prog 260 _ ReflectliteValue.set Tryz.func260 (by kernel_rfl) (by kernel_rfl) (by kernel_rfl) (by kernel_rfl)
  have f6 := valueOfPPFault
  have f7 := typePPFault
  have mK := methodKind
  have mE := methodElem
  have mI := methodImplements
  have mA := methodAssignableTo
  have kP := kindPPFault
  have kE := kindPFault
  have eP := elemPPFault
  have iE := implementsPFault
  have n8 := isNilPPFault ⟨w.heap.size, 0, none⟩ t ((w.alloc (.cells #[.pointer (some t)] 204)).alloc (.cells #[.pointer (some ⟨5, 204, none⟩), .pointer (some ⟨w.heap.size, 0, none⟩), .int .u64 150] 270)) (by simp)
  have hlt : 1 < w.heap.size := World.block_lt_of_cell? w ⟨1, 0, none⟩ hg
  have hg2 : ((w.alloc (.cells #[.pointer (some t)] 204)).alloc (.cells #[.pointer (some ⟨5, 204, none⟩), .pointer (some ⟨w.heap.size, 0, none⟩), .int .u64 150] 270)).cell? ⟨1, 0, none⟩ = some (.iface 322 (.agg #[.pointer (some ⟨5, 94, none⟩)])) := by
    rw [World.cell?_alloc_lt _ _ ⟨1, 0, none⟩ (by rw [World.size_alloc]; exact Nat.lt_succ_of_lt hlt), World.cell?_alloc_lt _ _ ⟨1, 0, none⟩ hlt]; exact hg
  have tOErrno := typeOfErrno
  have tOPFault := typeOfPFault
  have tOPPlace := typeOfPPlace
  have nAErrno := noAsErrno
  have nAPFault := noAsPFault
  have nAPPlace := noAsPPlace
  have nSErrno := noUnwsErrno
  have nUErrno := noUnwErrno
  have hUPFault := hasUnwPFault
  have hUPPlace := hasUnwPPlace
  have mUPFault := methodUnwPFault
  have mUPPlace := methodUnwPPlace
  have uaPPlace := unassignablePPlacePFault
  have asE := assignablePFault
  have vE := valueOfPFault
  have htl : t.block < w.heap.size := by
    rcases Nat.lt_or_ge t.block w.heap.size with h | h
    · exact h
    · simp [World.cell?, Array.getElem?_eq_none h] at ht0
  have el := elemVPPFault ⟨w.heap.size, 0, none⟩ t (((w.alloc (.cells #[.pointer (some t)] 204)).alloc (.cells #[.pointer (some ⟨5, 204, none⟩), .pointer (some ⟨w.heap.size, 0, none⟩), .int .u64 150] 270)).alloc (.cells #[.pointer (some ⟨5, 204, none⟩), .pointer (some ⟨w.heap.size, 0, none⟩), .int .u64 150] 270)) (by rw [World.cell?_alloc_lt _ _ ⟨w.heap.size, 0, none⟩ (by simp; omega)]; simp)
  have st := setPFault t ⟨w.heap.size + 1 + 1 + 1, 0, none⟩ (⟨fb, 0, none⟩) old ((((w.alloc (.cells #[.pointer (some t)] 204)).alloc (.cells #[.pointer (some ⟨5, 204, none⟩), .pointer (some ⟨w.heap.size, 0, none⟩), .int .u64 150] 270)).alloc (.cells #[.pointer (some ⟨5, 204, none⟩), .pointer (some ⟨w.heap.size, 0, none⟩), .int .u64 150] 270)).alloc (.cells #[.pointer (some ⟨fb, 0, none⟩)] 154))
    (by rw [World.cell?_alloc_at _ _ _ _ (by simp)]; rfl)
    (by rw [World.cell?_alloc_lt _ _ t (by simp; omega), World.cell?_alloc_lt _ _ t (by simp; omega), World.cell?_alloc_lt _ _ t (by simp; omega), World.cell?_alloc_lt _ _ t htl]; exact ht0)
    (by rw [World.frozen?_alloc_old _ _ t (by simp; omega), World.frozen?_alloc_old _ _ t (by simp; omega), World.frozen?_alloc_old _ _ t (by simp; omega), World.frozen?_alloc_old _ _ t (Nat.ne_of_lt htl)]; exact hf0)
  obtain ⟨r, hr⟩ : ∃ r, r = Base.fault fb fc fa := ⟨_, rfl⟩
  rw [← hr] at hch
  have HR := Lib.hid hr
  clear hr
  have hchl : Chain B (LoopW w t 204) r ws (.iface T V) := Chain.keep ((LoopW.below w t 204).mono hB) hch
  have HC := Lib.hid hchl
  clear hchl hch
  go_enter Tryz.func142, Tryz.ntmps142
  go_wp2
  go_loopg [0] (ws.length) (fun k v' wr => wr = LoopW w t 204 ∧ ∃ l, k = l.length ∧ Chain B wr r l v')
  case atStart => exact ⟨rfl, ws, rfl, HC.out⟩
  case round =>
    obtain ⟨hwr, l, hk, hl⟩ := hrel
    unfold LoopW at hwr
    subst hwr
    have HK := Lib.hid hk
    clear hk
    cases l with
    | cons s l =>
      obtain ⟨b, u, rfl, hb, h0, h1, hr⟩ := hl
      obtain ⟨Tu, Vu, rfl⟩ := hr.iface
      have HT := Lib.hid hr
      clear hr
      go_wp2
      go_roundg (l.length)
      case measure => have := HK.out; simp at this; omega
      case rel => exact ⟨rfl, l, rfl, HT.out⟩
    | nil =>
      rw [HR.out] at hl
      obtain ⟨rfl, hb, h0, h1⟩ := hl
      go_wp2
      go_ret
      exact ⟨rfl, _, (LoopW.below w t 204).alloc (by simp [LoopW]; omega) _, rfl⟩
set_option maxRecDepth 100000 in
set_option maxHeartbeats 4000000 in
theorem as_fault_no (B : Nat) (r : Base) (hr : ∀ b c a, r ≠ .fault b c a) (ws : List ByteArray) (v : Value) (t : Addr) (w : World) (hB : B ≤ w.heap.size) (hch : Chain B w r ws v)
    (hg : w.cell? ⟨1, 0, none⟩ = some (.iface 322 (.agg #[.pointer (some ⟨5, 94, none⟩)]))) :
    Calls Tryz.prog 142 #[v, .iface 204 (.pointer (some t))] w fun ev w' => ev = .returned (.bool false) ∧ Below w.heap.size w w' := by
  obtain ⟨T, V, rfl⟩ := hch.iface
  have h6 := @run_callFunc_extern Tryz.prog 200 _ (fun args => ReflectliteValue.unpack (args.getD 0 (.tuple #[]))) Tryz.func200 (by kernel_rfl) (by kernel_rfl) (by kernel_rfl) (by kernel_rfl)
  have h7 := @run_callFunc_extern Tryz.prog 201 _ (ReflectliteValue.methodAny (ReflectliteValue.valueError "reflectlite.Value.Type" 0) (fun t _ _ _ => ReflectliteType.toType t)) Tryz.func201 (by kernel_rfl) (by kernel_rfl) (by kernel_rfl) (by kernel_rfl)
  have h8 := @run_callFunc_extern Tryz.prog 202 _ (ReflectliteValue.method (ReflectliteValue.valueError "reflectlite.Value.IsNil" 0) ReflectliteValue.isNil) Tryz.func202 (by kernel_rfl) (by kernel_rfl) (by kernel_rfl) (by kernel_rfl)
  have h27 := @run_callFunc_extern Tryz.prog 425 _ (ReflectliteType.abiMethod fun t => do pure (.int .u8 (← Rtype.kind t))) Tryz.func425 (by kernel_rfl) (by kernel_rfl) (by kernel_rfl) (by kernel_rfl)
  have h37 := @run_callFunc_extern Tryz.prog 440 _ (ReflectliteType.method ReflectliteType.elem) Tryz.func440 (by kernel_rfl) (by kernel_rfl) (by kernel_rfl) (by kernel_rfl)
  have h38 := @run_callFunc_extern Tryz.prog 441 _ (ReflectliteType.relation "Implements" ReflectliteType.implements_) Tryz.func441 (by kernel_rfl) (by kernel_rfl) (by kernel_rfl) (by kernel_rfl)
  have h10 := @run_callFunc_extern Tryz.prog 258 _ ReflectliteType.typeOf Tryz.func258 (by kernel_rfl) (by kernel_rfl) (by kernel_rfl) (by kernel_rfl)
  have h35 := @run_callFunc_extern Tryz.prog 438 _ (ReflectliteType.relation "AssignableTo" ReflectliteType.assignableTo) Tryz.func438 (by kernel_rfl) (by kernel_rfl) (by kernel_rfl) (by kernel_rfl)
  have h11 := @run_callFunc_extern Tryz.prog 259 _ (ReflectliteValue.method (ReflectliteValue.valueError "reflectlite.Value.Elem" 0) ReflectliteValue.elem) Tryz.func259 (by kernel_rfl) (by kernel_rfl) (by kernel_rfl) (by kernel_rfl)
  have h12 := @run_callFunc_extern Tryz.prog 260 _ ReflectliteValue.set Tryz.func260 (by kernel_rfl) (by kernel_rfl) (by kernel_rfl) (by kernel_rfl)
  have f6 := valueOfPPFault
  have f7 := typePPFault
  have mK := methodKind
  have mE := methodElem
  have mI := methodImplements
  have mA := methodAssignableTo
  have kP := kindPPFault
  have kE := kindPFault
  have eP := elemPPFault
  have iE := implementsPFault
  have n8 := isNilPPFault ⟨w.heap.size, 0, none⟩ t ((w.alloc (.cells #[.pointer (some t)] 204)).alloc (.cells #[.pointer (some ⟨5, 204, none⟩), .pointer (some ⟨w.heap.size, 0, none⟩), .int .u64 150] 270)) (by simp)
  have hlt : 1 < w.heap.size := World.block_lt_of_cell? w ⟨1, 0, none⟩ hg
  have hg2 : ((w.alloc (.cells #[.pointer (some t)] 204)).alloc (.cells #[.pointer (some ⟨5, 204, none⟩), .pointer (some ⟨w.heap.size, 0, none⟩), .int .u64 150] 270)).cell? ⟨1, 0, none⟩ = some (.iface 322 (.agg #[.pointer (some ⟨5, 94, none⟩)])) := by
    rw [World.cell?_alloc_lt _ _ ⟨1, 0, none⟩ (by rw [World.size_alloc]; exact Nat.lt_succ_of_lt hlt), World.cell?_alloc_lt _ _ ⟨1, 0, none⟩ hlt]; exact hg
  have tOErrno := typeOfErrno
  have tOPFault := typeOfPFault
  have tOPPlace := typeOfPPlace
  have nAErrno := noAsErrno
  have nAPFault := noAsPFault
  have nAPPlace := noAsPPlace
  have nSErrno := noUnwsErrno
  have nUErrno := noUnwErrno
  have hUPFault := hasUnwPFault
  have hUPPlace := hasUnwPPlace
  have mUPFault := methodUnwPFault
  have mUPPlace := methodUnwPPlace
  have uaErrno := unassignableErrnoPFault
  have uaPPlace := unassignablePPlacePFault
  have HR := Lib.hid hr
  clear hr
  have hchl : Chain B (LoopW w t 204) r ws (.iface T V) := Chain.keep ((LoopW.below w t 204).mono hB) hch
  have HC := Lib.hid hchl
  clear hchl hch
  go_enter Tryz.func142, Tryz.ntmps142
  go_wp2
  go_loopg [0] (ws.length) (fun k v' wr => wr = LoopW w t 204 ∧ ∃ l, k = l.length ∧ Chain B wr r l v')
  case atStart => exact ⟨rfl, ws, rfl, HC.out⟩
  case round =>
    obtain ⟨hwr, l, hk, hl⟩ := hrel
    unfold LoopW at hwr
    subst hwr
    have HK := Lib.hid hk
    clear hk
    cases l with
    | cons s l =>
      obtain ⟨b, u, rfl, hb, h0, h1, hr⟩ := hl
      obtain ⟨Tu, Vu, rfl⟩ := hr.iface
      have HT := Lib.hid hr
      clear hr
      go_wp2
      go_roundg (l.length)
      case measure => have := HK.out; simp at this; omega
      case rel => exact ⟨rfl, l, rfl, HT.out⟩
    | nil =>
      cases r with
      | errno c =>
        obtain rfl := hl
        go_wp2
        go_ret
        exact ⟨rfl, LoopW.below w t 204⟩
      | fault b c a => exact absurd rfl (HR.out b c a)
      | other b => exact hl.elim
set_option maxRecDepth 100000 in
set_option maxHeartbeats 4000000 in
theorem as_place (b : Nat) (t : Addr) (old : Value) (w : World)
    (hg : w.cell? ⟨1, 0, none⟩ = some (.iface 322 (.agg #[.pointer (some ⟨5, 94, none⟩)]))) (ht0 : w.cell? t = some old) (hf0 : w.frozen? t = false) :
    Calls Tryz.prog 142 #[.iface 167 (.pointer (some ⟨b, 0, none⟩)), .iface 202 (.pointer (some t))] w fun ev w' => ev = .returned (.bool true) ∧ Sets w t (.pointer (some ⟨b, 0, none⟩)) w' := by
  have h6 := @run_callFunc_extern Tryz.prog 200 _ (fun args => ReflectliteValue.unpack (args.getD 0 (.tuple #[]))) Tryz.func200 (by kernel_rfl) (by kernel_rfl) (by kernel_rfl) (by kernel_rfl)
  have h7 := @run_callFunc_extern Tryz.prog 201 _ (ReflectliteValue.methodAny (ReflectliteValue.valueError "reflectlite.Value.Type" 0) (fun t _ _ _ => ReflectliteType.toType t)) Tryz.func201 (by kernel_rfl) (by kernel_rfl) (by kernel_rfl) (by kernel_rfl)
  have h8 := @run_callFunc_extern Tryz.prog 202 _ (ReflectliteValue.method (ReflectliteValue.valueError "reflectlite.Value.IsNil" 0) ReflectliteValue.isNil) Tryz.func202 (by kernel_rfl) (by kernel_rfl) (by kernel_rfl) (by kernel_rfl)
  have h27 := @run_callFunc_extern Tryz.prog 425 _ (ReflectliteType.abiMethod fun t => do pure (.int .u8 (← Rtype.kind t))) Tryz.func425 (by kernel_rfl) (by kernel_rfl) (by kernel_rfl) (by kernel_rfl)
  have h37 := @run_callFunc_extern Tryz.prog 440 _ (ReflectliteType.method ReflectliteType.elem) Tryz.func440 (by kernel_rfl) (by kernel_rfl) (by kernel_rfl) (by kernel_rfl)
  have h38 := @run_callFunc_extern Tryz.prog 441 _ (ReflectliteType.relation "Implements" ReflectliteType.implements_) Tryz.func441 (by kernel_rfl) (by kernel_rfl) (by kernel_rfl) (by kernel_rfl)
  have h10 := @run_callFunc_extern Tryz.prog 258 _ ReflectliteType.typeOf Tryz.func258 (by kernel_rfl) (by kernel_rfl) (by kernel_rfl) (by kernel_rfl)
  have h35 := @run_callFunc_extern Tryz.prog 438 _ (ReflectliteType.relation "AssignableTo" ReflectliteType.assignableTo) Tryz.func438 (by kernel_rfl) (by kernel_rfl) (by kernel_rfl) (by kernel_rfl)
  have h11 := @run_callFunc_extern Tryz.prog 259 _ (ReflectliteValue.method (ReflectliteValue.valueError "reflectlite.Value.Elem" 0) ReflectliteValue.elem) Tryz.func259 (by kernel_rfl) (by kernel_rfl) (by kernel_rfl) (by kernel_rfl)
  have h12 := @run_callFunc_extern Tryz.prog 260 _ ReflectliteValue.set Tryz.func260 (by kernel_rfl) (by kernel_rfl) (by kernel_rfl) (by kernel_rfl)
  have f6 := valueOfPPPlace
  have f7 := typePPPlace
  have mK := methodKind
  have mE := methodElem
  have mI := methodImplements
  have mA := methodAssignableTo
  have kP := kindPPPlace
  have kE := kindPPlace
  have eP := elemPPPlace
  have iE := implementsPPlace
  have n8 := isNilPPPlace ⟨w.heap.size, 0, none⟩ t ((w.alloc (.cells #[.pointer (some t)] 202)).alloc (.cells #[.pointer (some ⟨5, 202, none⟩), .pointer (some ⟨w.heap.size, 0, none⟩), .int .u64 150] 270)) (by simp)
  have hlt : 1 < w.heap.size := World.block_lt_of_cell? w ⟨1, 0, none⟩ hg
  have hg2 : ((w.alloc (.cells #[.pointer (some t)] 202)).alloc (.cells #[.pointer (some ⟨5, 202, none⟩), .pointer (some ⟨w.heap.size, 0, none⟩), .int .u64 150] 270)).cell? ⟨1, 0, none⟩ = some (.iface 322 (.agg #[.pointer (some ⟨5, 94, none⟩)])) := by
    rw [World.cell?_alloc_lt _ _ ⟨1, 0, none⟩ (by rw [World.size_alloc]; exact Nat.lt_succ_of_lt hlt), World.cell?_alloc_lt _ _ ⟨1, 0, none⟩ hlt]; exact hg
  have tOErrno := typeOfErrno
  have tOPFault := typeOfPFault
  have tOPPlace := typeOfPPlace
  have nAErrno := noAsErrno
  have nAPFault := noAsPFault
  have nAPPlace := noAsPPlace
  have nSErrno := noUnwsErrno
  have nUErrno := noUnwErrno
  have hUPFault := hasUnwPFault
  have hUPPlace := hasUnwPPlace
  have mUPFault := methodUnwPFault
  have mUPPlace := methodUnwPPlace
  have asE := assignablePPlace
  have vE := valueOfPPlace
  have htl : t.block < w.heap.size := by
    rcases Nat.lt_or_ge t.block w.heap.size with h | h
    · exact h
    · simp [World.cell?, Array.getElem?_eq_none h] at ht0
  have el := elemVPPPlace ⟨w.heap.size, 0, none⟩ t (((w.alloc (.cells #[.pointer (some t)] 202)).alloc (.cells #[.pointer (some ⟨5, 202, none⟩), .pointer (some ⟨w.heap.size, 0, none⟩), .int .u64 150] 270)).alloc (.cells #[.pointer (some ⟨5, 202, none⟩), .pointer (some ⟨w.heap.size, 0, none⟩), .int .u64 150] 270)) (by rw [World.cell?_alloc_lt _ _ ⟨w.heap.size, 0, none⟩ (by simp; omega)]; simp)
  have st := setPPlace t ⟨w.heap.size + 1 + 1 + 1, 0, none⟩ (⟨b, 0, none⟩) old ((((w.alloc (.cells #[.pointer (some t)] 202)).alloc (.cells #[.pointer (some ⟨5, 202, none⟩), .pointer (some ⟨w.heap.size, 0, none⟩), .int .u64 150] 270)).alloc (.cells #[.pointer (some ⟨5, 202, none⟩), .pointer (some ⟨w.heap.size, 0, none⟩), .int .u64 150] 270)).alloc (.cells #[.pointer (some ⟨b, 0, none⟩)] 167))
    (by rw [World.cell?_alloc_at _ _ _ _ (by simp)]; rfl)
    (by rw [World.cell?_alloc_lt _ _ t (by simp; omega), World.cell?_alloc_lt _ _ t (by simp; omega), World.cell?_alloc_lt _ _ t (by simp; omega), World.cell?_alloc_lt _ _ t htl]; exact ht0)
    (by rw [World.frozen?_alloc_old _ _ t (by simp; omega), World.frozen?_alloc_old _ _ t (by simp; omega), World.frozen?_alloc_old _ _ t (by simp; omega), World.frozen?_alloc_old _ _ t (Nat.ne_of_lt htl)]; exact hf0)
  go_enter Tryz.func142, Tryz.ntmps142
  go_wp2
  refine wp_loop_rounds 1 ?_
  rw [rounds_succ]
  go_wp2
  go_ret
  exact ⟨rfl, _, (LoopW.below w t 202).alloc (by simp [LoopW]; omega) _, rfl⟩
set_option maxRecDepth 100000 in
set_option maxHeartbeats 4000000 in
theorem as_place_no (B : Nat) (r : Base) (v : Value) (t : Addr) (w : World) (hB : B ≤ w.heap.size) (hch : Root B w r v)
    (hg : w.cell? ⟨1, 0, none⟩ = some (.iface 322 (.agg #[.pointer (some ⟨5, 94, none⟩)]))) :
    Calls Tryz.prog 142 #[v, .iface 202 (.pointer (some t))] w fun ev w' => ev = .returned (.bool false) ∧ Below w.heap.size w w' := by
  have h6 := @run_callFunc_extern Tryz.prog 200 _ (fun args => ReflectliteValue.unpack (args.getD 0 (.tuple #[]))) Tryz.func200 (by kernel_rfl) (by kernel_rfl) (by kernel_rfl) (by kernel_rfl)
  have h7 := @run_callFunc_extern Tryz.prog 201 _ (ReflectliteValue.methodAny (ReflectliteValue.valueError "reflectlite.Value.Type" 0) (fun t _ _ _ => ReflectliteType.toType t)) Tryz.func201 (by kernel_rfl) (by kernel_rfl) (by kernel_rfl) (by kernel_rfl)
  have h8 := @run_callFunc_extern Tryz.prog 202 _ (ReflectliteValue.method (ReflectliteValue.valueError "reflectlite.Value.IsNil" 0) ReflectliteValue.isNil) Tryz.func202 (by kernel_rfl) (by kernel_rfl) (by kernel_rfl) (by kernel_rfl)
  have h27 := @run_callFunc_extern Tryz.prog 425 _ (ReflectliteType.abiMethod fun t => do pure (.int .u8 (← Rtype.kind t))) Tryz.func425 (by kernel_rfl) (by kernel_rfl) (by kernel_rfl) (by kernel_rfl)
  have h37 := @run_callFunc_extern Tryz.prog 440 _ (ReflectliteType.method ReflectliteType.elem) Tryz.func440 (by kernel_rfl) (by kernel_rfl) (by kernel_rfl) (by kernel_rfl)
  have h38 := @run_callFunc_extern Tryz.prog 441 _ (ReflectliteType.relation "Implements" ReflectliteType.implements_) Tryz.func441 (by kernel_rfl) (by kernel_rfl) (by kernel_rfl) (by kernel_rfl)
  have h10 := @run_callFunc_extern Tryz.prog 258 _ ReflectliteType.typeOf Tryz.func258 (by kernel_rfl) (by kernel_rfl) (by kernel_rfl) (by kernel_rfl)
  have h35 := @run_callFunc_extern Tryz.prog 438 _ (ReflectliteType.relation "AssignableTo" ReflectliteType.assignableTo) Tryz.func438 (by kernel_rfl) (by kernel_rfl) (by kernel_rfl) (by kernel_rfl)
  have h11 := @run_callFunc_extern Tryz.prog 259 _ (ReflectliteValue.method (ReflectliteValue.valueError "reflectlite.Value.Elem" 0) ReflectliteValue.elem) Tryz.func259 (by kernel_rfl) (by kernel_rfl) (by kernel_rfl) (by kernel_rfl)
  have h12 := @run_callFunc_extern Tryz.prog 260 _ ReflectliteValue.set Tryz.func260 (by kernel_rfl) (by kernel_rfl) (by kernel_rfl) (by kernel_rfl)
  have f6 := valueOfPPPlace
  have f7 := typePPPlace
  have mK := methodKind
  have mE := methodElem
  have mI := methodImplements
  have mA := methodAssignableTo
  have kP := kindPPPlace
  have kE := kindPPlace
  have eP := elemPPPlace
  have iE := implementsPPlace
  have n8 := isNilPPPlace ⟨w.heap.size, 0, none⟩ t ((w.alloc (.cells #[.pointer (some t)] 202)).alloc (.cells #[.pointer (some ⟨5, 202, none⟩), .pointer (some ⟨w.heap.size, 0, none⟩), .int .u64 150] 270)) (by simp)
  have hlt : 1 < w.heap.size := World.block_lt_of_cell? w ⟨1, 0, none⟩ hg
  have hg2 : ((w.alloc (.cells #[.pointer (some t)] 202)).alloc (.cells #[.pointer (some ⟨5, 202, none⟩), .pointer (some ⟨w.heap.size, 0, none⟩), .int .u64 150] 270)).cell? ⟨1, 0, none⟩ = some (.iface 322 (.agg #[.pointer (some ⟨5, 94, none⟩)])) := by
    rw [World.cell?_alloc_lt _ _ ⟨1, 0, none⟩ (by rw [World.size_alloc]; exact Nat.lt_succ_of_lt hlt), World.cell?_alloc_lt _ _ ⟨1, 0, none⟩ hlt]; exact hg
  have tOErrno := typeOfErrno
  have tOPFault := typeOfPFault
  have tOPPlace := typeOfPPlace
  have nAErrno := noAsErrno
  have nAPFault := noAsPFault
  have nAPPlace := noAsPPlace
  have nSErrno := noUnwsErrno
  have nUErrno := noUnwErrno
  have hUPFault := hasUnwPFault
  have hUPPlace := hasUnwPPlace
  have mUPFault := methodUnwPFault
  have mUPPlace := methodUnwPPlace
  have uaErrno := unassignableErrnoPPlace
  have uaPFault := unassignablePFaultPPlace
  cases r with
  | errno c =>
    obtain rfl := hch
    go_enter Tryz.func142, Tryz.ntmps142
    go_wp2
    refine wp_loop_rounds 1 ?_
    rw [rounds_succ]
    go_wp2
    go_ret
    exact ⟨rfl, LoopW.below w t 202⟩
  | fault b c a =>
    obtain ⟨rfl, hb, h0, h1⟩ := hch
    have h0' := ((LoopW.below w t 202).cell (p := ⟨b, 0, none⟩) (Nat.lt_of_lt_of_le hb hB)).trans h0
    unfold LoopW at h0'
    go_enter Tryz.func142, Tryz.ntmps142
    go_wp2
    refine wp_loop_rounds 2 ?_
    rw [rounds_succ]
    go_wp2
    rw [rounds_succ]
    go_wp2
    go_ret
    exact ⟨rfl, LoopW.below w t 202⟩
  | other b => exact hch.elim
end Go.Proofs.YtbhkfifmgbcknaaGreatDoor
