/-
  What errors.As says of the errors of package api where the target is a variable of type pointer to api.At: by contracts over Go's own text.
-/
import Derived.Test.YtgnkmenjjmfcfaaDoorErrIs
namespace Go.Proofs.YtgnkmenjjmfcfaaDoor
open Go.RowKit Go.Extern.Stop Go.Stop Go.Extern FerryCrc

theorem as_nil (t : Value) (w : World) :
    Calls Tryd.prog 48 #[.nilIface, t] w fun e w' => e = .returned (.bool false) ∧ w = w' := by
  go_enter Tryd.func48, Tryd.ntmps48
  go_wp2
  go_ret
  exact ⟨rfl, rfl⟩

/-! The model's entries, under names of our own, and what each gives at these types. -/
def entValueOf : Array Value → Sem Value := fun args => ReflectliteValue.unpack (args.getD 0 (.tuple #[]))
def entType : Array Value → Sem Value := ReflectliteValue.methodAny (ReflectliteValue.valueError "reflectlite.Value.Type" 0) (fun t _ _ _ => ReflectliteType.toType t)
def entIsNil : Array Value → Sem Value := ReflectliteValue.method (ReflectliteValue.valueError "reflectlite.Value.IsNil" 0) ReflectliteValue.isNil
def entKind : Array Value → Sem Value := ReflectliteType.abiMethod fun t => do pure (.int .u8 (← Rtype.kind t))
def entElem : Array Value → Sem Value := ReflectliteType.method ReflectliteType.elem
def entImplements : Array Value → Sem Value := ReflectliteType.relation "Implements" ReflectliteType.implements_
def entAssignable : Array Value → Sem Value := ReflectliteType.relation "AssignableTo" ReflectliteType.assignableTo
def entValueElem : Array Value → Sem Value := ReflectliteValue.method (ReflectliteValue.valueError "reflectlite.Value.Elem" 0) ReflectliteValue.elem

theorem callValueOf (args : Array Value) (w : World) : Sem.run Tryd.prog (callFunc 59 args) w = (Sem.run Tryd.prog (entValueOf args) w).andThen fun v w' => Result.ok (Next.value v) w' :=
  run_callFunc_extern (P := Tryd.prog) (e := entValueOf) Tryd.func59 (by kernel_rfl) (by kernel_rfl) (by kernel_rfl) (by kernel_rfl) args w
theorem callType (args : Array Value) (w : World) : Sem.run Tryd.prog (callFunc 60 args) w = (Sem.run Tryd.prog (entType args) w).andThen fun v w' => Result.ok (Next.value v) w' :=
  run_callFunc_extern (P := Tryd.prog) (e := entType) Tryd.func60 (by kernel_rfl) (by kernel_rfl) (by kernel_rfl) (by kernel_rfl) args w
theorem callIsNil (args : Array Value) (w : World) : Sem.run Tryd.prog (callFunc 61 args) w = (Sem.run Tryd.prog (entIsNil args) w).andThen fun v w' => Result.ok (Next.value v) w' :=
  run_callFunc_extern (P := Tryd.prog) (e := entIsNil) Tryd.func61 (by kernel_rfl) (by kernel_rfl) (by kernel_rfl) (by kernel_rfl) args w
theorem callKind (args : Array Value) (w : World) : Sem.run Tryd.prog (callFunc 86 args) w = (Sem.run Tryd.prog (entKind args) w).andThen fun v w' => Result.ok (Next.value v) w' :=
  run_callFunc_extern (P := Tryd.prog) (e := entKind) Tryd.func86 (by kernel_rfl) (by kernel_rfl) (by kernel_rfl) (by kernel_rfl) args w
theorem callElem (args : Array Value) (w : World) : Sem.run Tryd.prog (callFunc 94 args) w = (Sem.run Tryd.prog (entElem args) w).andThen fun v w' => Result.ok (Next.value v) w' :=
  run_callFunc_extern (P := Tryd.prog) (e := entElem) Tryd.func94 (by kernel_rfl) (by kernel_rfl) (by kernel_rfl) (by kernel_rfl) args w
theorem callImplements (args : Array Value) (w : World) : Sem.run Tryd.prog (callFunc 95 args) w = (Sem.run Tryd.prog (entImplements args) w).andThen fun v w' => Result.ok (Next.value v) w' :=
  run_callFunc_extern (P := Tryd.prog) (e := entImplements) Tryd.func95 (by kernel_rfl) (by kernel_rfl) (by kernel_rfl) (by kernel_rfl) args w
theorem callAssignable (args : Array Value) (w : World) : Sem.run Tryd.prog (callFunc 92 args) w = (Sem.run Tryd.prog (entAssignable args) w).andThen fun v w' => Result.ok (Next.value v) w' :=
  run_callFunc_extern (P := Tryd.prog) (e := entAssignable) Tryd.func92 (by kernel_rfl) (by kernel_rfl) (by kernel_rfl) (by kernel_rfl) args w
theorem callValueElem (args : Array Value) (w : World) : Sem.run Tryd.prog (callFunc 69 args) w = (Sem.run Tryd.prog (entValueElem args) w).andThen fun v w' => Result.ok (Next.value v) w' :=
  run_callFunc_extern (P := Tryd.prog) (e := entValueElem) Tryd.func69 (by kernel_rfl) (by kernel_rfl) (by kernel_rfl) (by kernel_rfl) args w
theorem callSet (args : Array Value) (w : World) : Sem.run Tryd.prog (callFunc 70 args) w = (Sem.run Tryd.prog (ReflectliteValue.set args) w).andThen fun v w' => Result.ok (Next.value v) w' :=
  run_callFunc_extern (P := Tryd.prog) (e := ReflectliteValue.set) Tryd.func70 (by kernel_rfl) (by kernel_rfl) (by kernel_rfl) (by kernel_rfl) args w

theorem valueOfPP (t : Addr) (w : World) : (entValueOf #[.iface 99 (.pointer (some t))]).run Tryd.prog w
    = .ok (.agg #[.pointer (some ⟨21, 99, none⟩), .pointer (some ⟨w.heap.size, 0, none⟩), .int .u64 150]) (w.alloc (.cells #[.pointer (some t)] 99)) := by kernel_rfl
theorem typePP (a : Addr) (w : World) : (entType #[.agg #[.pointer (some ⟨21, 99, none⟩), .pointer (some a), .int .u64 150]]).run Tryd.prog w
    = .ok (.iface 114 (.agg #[.pointer (some ⟨21, 99, none⟩)])) w := by kernel_rfl
theorem methodKind (h : Value) (w : World) : (Go.method 280 114 (.agg #[h]) "Kind").run Tryd.prog w = .ok (86, h) w := by kernel_rfl
theorem kindPP (w : World) : (entKind #[.pointer (some ⟨21, 99, none⟩)]).run Tryd.prog w = .ok (.int .u8 22) w := by kernel_rfl
theorem kindP (w : World) : (entKind #[.pointer (some ⟨21, 97, none⟩)]).run Tryd.prog w = .ok (.int .u8 22) w := by kernel_rfl
theorem partsPP (a : Addr) (w : World) : (ReflectliteValue.parts (.agg #[.pointer (some ⟨21, 99, none⟩), .pointer (some a), .int .u64 150])).run Tryd.prog w = .ok (some (99, a, 150)) w := by kernel_rfl
theorem isNilPP (a p : Addr) (W : World) (ha : W.cell? a = some (.pointer (some p))) :
    (entIsNil #[.agg #[.pointer (some ⟨21, 99, none⟩), .pointer (some a), .int .u64 150]]).run Tryd.prog W = .ok (.bool false) W := by
  unfold entIsNil
  change Sem.run Tryd.prog (ReflectliteValue.parts (.agg #[.pointer (some ⟨21, 99, none⟩), .pointer (some a), .int .u64 150]) >>= _) W = _
  simp only [Sem.run_bind, partsPP, Result.andThen]
  simp [ReflectliteValue.isNil, loadVar, isAgg, underlying, Tryd.underlying99, ha, Result.andThen]
theorem methodElem (h : Value) (w : World) : (Go.method 280 114 (.agg #[h]) "Elem").run Tryd.prog w = .ok (94, .agg #[h]) w := by kernel_rfl
theorem methodImplements (h : Value) (w : World) : (Go.method 280 114 (.agg #[h]) "Implements").run Tryd.prog w = .ok (95, .agg #[h]) w := by kernel_rfl
theorem methodAssignable (h : Value) (w : World) : (Go.method 280 114 (.agg #[h]) "AssignableTo").run Tryd.prog w = .ok (92, .agg #[h]) w := by kernel_rfl
theorem elemPP (w : World) : (entElem #[.agg #[.pointer (some ⟨21, 99, none⟩)]]).run Tryd.prog w = .ok (.iface 114 (.agg #[.pointer (some ⟨21, 97, none⟩)])) w := by kernel_rfl
theorem implementsP (w : World) : (entImplements #[.agg #[.pointer (some ⟨21, 97, none⟩)], .iface 114 (.agg #[.pointer (some ⟨21, 37, none⟩)])]).run Tryd.prog w = .ok (.bool true) w := by kernel_rfl
theorem typeOfP (v : Value) (w : World) : (ReflectliteType.typeOf #[.iface 97 v]).run Tryd.prog w = .ok (.iface 114 (.agg #[.pointer (some ⟨21, 97, none⟩)])) w := by kernel_rfl
theorem assignableP (w : World) : (entAssignable #[.agg #[.pointer (some ⟨21, 97, none⟩)], .iface 114 (.agg #[.pointer (some ⟨21, 97, none⟩)])]).run Tryd.prog w = .ok (.bool true) w := by kernel_rfl
theorem assignableE (w : World) : (entAssignable #[.agg #[.pointer (some ⟨21, 148, none⟩)], .iface 114 (.agg #[.pointer (some ⟨21, 97, none⟩)])]).run Tryd.prog w = .ok (.bool false) w := by kernel_rfl
theorem noAsE (v : Value) (xT : TypeId) (w : World) : (Instr.typeAssert (.iface 148 v) xT 143 true).run Tryd.prog w = .ok (.tuple #[.nilIface, .bool false]) w := run_typeAssert_lacksB Tryd.underlying143 (by kernel_rfl) (by kernel_rfl) v xT w
theorem valueOfP (e : Addr) (w : World) : (entValueOf #[.iface 97 (.pointer (some e))]).run Tryd.prog w
    = .ok (.agg #[.pointer (some ⟨21, 97, none⟩), .pointer (some ⟨w.heap.size, 0, none⟩), .int .u64 150]) (w.alloc (.cells #[.pointer (some e)] 97)) := by kernel_rfl
theorem elemOfPP (w : World) : (Rtype.elem? 99).run Tryd.prog w = .ok (some 97) w := by kernel_rfl
theorem mkP (p : Addr) (w : World) : (ReflectliteValue.mk 97 p ReflectliteValue.flagAddr).run Tryd.prog w = .ok (.agg #[.pointer (some ⟨21, 97, none⟩), .pointer (some p), .int .u64 406]) w := by kernel_rfl
theorem elemVPP (a p : Addr) (W : World) (ha : W.cell? a = some (.pointer (some p))) :
    (entValueElem #[.agg #[.pointer (some ⟨21, 99, none⟩), .pointer (some a), .int .u64 150]]).run Tryd.prog W
      = .ok (.agg #[.pointer (some ⟨21, 97, none⟩), .pointer (some p), .int .u64 406]) W := by
  unfold entValueElem
  change Sem.run Tryd.prog (ReflectliteValue.parts (.agg #[.pointer (some ⟨21, 99, none⟩), .pointer (some a), .int .u64 150]) >>= _) W = _
  simp only [Sem.run_bind, partsPP, Result.andThen]
  simp [ReflectliteValue.elem, loadVar, isAgg, underlying, Tryd.underlying99, ha, Result.andThen, elemOfPP, mkP]
theorem partsPa (a : Addr) (w : World) : (ReflectliteValue.parts (.agg #[.pointer (some ⟨21, 97, none⟩), .pointer (some a), .int .u64 406])).run Tryd.prog w = .ok (some (97, a, 406)) w := by kernel_rfl
theorem partsP (a : Addr) (w : World) : (ReflectliteValue.parts (.agg #[.pointer (some ⟨21, 97, none⟩), .pointer (some a), .int .u64 150])).run Tryd.prog w = .ok (some (97, a, 150)) w := by kernel_rfl
theorem directP (w : World) : (Rtype.directlyAssignable 97 97).run Tryd.prog w = .ok true w := by kernel_rfl

/-- What errors.As reads of package errors: the type of error, as a Type. -/
def Handle (w : World) : Prop := w.cell? ⟨20, 0, none⟩ = some (.iface 114 (.agg #[.pointer (some ⟨21, 37, none⟩)]))

theorem Handle.alloc {w : World} (h : Handle w) (o : Obj) : Handle (w.alloc o) := by
  unfold Handle at *
  rw [World.cell?_alloc_past _ _ _ (block_lt_of_cell h)]
  exact h

set_option maxRecDepth 100000 in
set_option maxHeartbeats 4000000 in
theorem as_miss (e t : Addr) (w : World) (hg : Handle w) :
    Calls Tryd.prog 48 #[sent e, .iface 99 (.pointer (some t))] w fun ev w' => ev = .returned (.bool false) ∧ Below w.heap.size w w' := by
  unfold sent
  have h6 := callValueOf
  have h7 := callType
  have h8 := callIsNil
  have h27 := callKind
  have h37 := callElem
  have h38 := callImplements
  have h10 := callTypeOf
  have h35 := callAssignable
  have tO := isTypeOf
  have mA := methodAssignable
  have aE := assignableE
  have nA := noAsE
  have uE := noUnwrapE
  have vE := noUnwrapsE
  have f6 := valueOfPP
  have f7 := typePP
  have mK := methodKind
  have mE := methodElem
  have mI := methodImplements
  have k27 := kindPP
  have k25 := kindP
  have e27 := elemPP
  have i25 := implementsP
  have n8 := isNilPP ⟨w.heap.size, 0, none⟩ t ((w.alloc (.cells #[.pointer (some t)] 99)).alloc (.cells #[.pointer (some ⟨21, 99, none⟩), .pointer (some ⟨w.heap.size, 0, none⟩), .int .u64 150] 127)) (by simp)
  have hg2 := (hg.alloc (.cells #[.pointer (some t)] 99)).alloc (.cells #[.pointer (some ⟨21, 99, none⟩), .pointer (some ⟨w.heap.size, 0, none⟩), .int .u64 150] 127)
  unfold Handle at hg2
  clear hg
  go_enter Tryd.func48, Tryd.ntmps48
  go_wp2
  refine wp_loop_rounds 1 ?_
  rw [rounds_succ]
  go_wp2
  go_ret
  exact ⟨rfl, (((Below.refl _ _).alloc (Nat.le_refl _) _).alloc (by simp) _).alloc (by simp; omega) _⟩
end Go.Proofs.YtgnkmenjjmfcfaaDoor
