/-
  A string's bytes appended; the document's Open; the law's own open, up to its lists.
-/
import Derived.Test.YtohoncgkekiihaaDoorWStep
import Derived.Lib.AppendStr
namespace Go.Proofs.YtohoncgkekiihaaDoor
open Go.RowKit FerryCrc
set_option linter.unusedVariables false
set_option linter.unusedSimpArgs false

/-- The bytes of a string. -/
def bytesOf (s : ByteArray) : List Nat := s.data.toList.map (·.toNat)
theorem bytesOf_lt (s : ByteArray) : ∀ c ∈ bytesOf s, c < 256 := by
  intro c hc
  obtain ⟨x, _, rfl⟩ := List.mem_map.1 hc
  exact x.toNat_lt
theorem str_bytesOf (s : ByteArray) : str (bytesOf s) = s := by
  obtain ⟨⟨l⟩⟩ := s
  simp [str, bytesOf, Function.comp_def]
theorem bytesOf_len (s : ByteArray) : (bytesOf s).length = s.size := by
  obtain ⟨⟨l⟩⟩ := s
  simp [bytesOf, ByteArray.size]
theorem strCells_eq (s : ByteArray) : Lib.strCells s = (bytesOf s).map bv := by
  unfold Lib.strCells bytesOf bv
  rw [List.map_map]
  rfl

/-- append of a string's bytes to a slice of one's own. -/
theorem append_str {w : World} {ops : Array Oper} {rest : List Oper} {o : Oper} {act : Act} {Q : Exit → Act → World → Prop} (hgd : o.guard = none) (sl x : Operand)
    (ho : o.op = .call { callee := .builtin .append, args := #[sl, x], argTypes := #[23, 9] })
    (base : Nat) (v : Value) (xs : List Nat) (hs : act.eval sl = v) (hown : Own w base v xs) (s : ByteArray) (hx : act.eval x = .string s)
    (h63 : xs.length + s.size ≤ 140737488355328) (hbase : base ≤ w.heap.size)
    (h : ∀ v' w', Own w' base v' (xs ++ bytesOf s) → Frm (fun k => v.ownBlock = some k) w w' → wpList Tryd.prog ops Q rest (act.put o.dst v') w') : wpList Tryd.prog ops Q (o :: rest) act w := by
  obtain ⟨i0, hi, hz0, hz1, hz2⟩ := info_parts info8
  refine Lib.wpList_append_own_string w hgd sl x 23 9 ho base 5 i0 Tryd.underlying23 Tryd.underlying9 hi hz0 hz1 hz2 v xs.length (xs.map bv) hs hown s hx (by unfold maxLen; omega) h63 hbase ?_
  intro v' w' h1 h2 h3
  refine h v' w' ?_ (frm_grown h2)
  unfold Own
  rw [List.length_append, List.map_append, bytesOf_len, ← strCells_eq]
  exact h1

set_option maxRecDepth 100000 in
theorem refOpen_any (a : Option Addr) (len cap : Nat) (l : List Nat) (w : World) (hs : Bts w a len cap l) :
    Calls Tryd.prog 46 #[.slice a len cap] w fun e w' => ∃ c, w.heap.size ≤ c ∧ e = .returned (.pointer (some ⟨c, 0, none⟩)) ∧ Below w.heap.size w w' := by
  have HS := hide hs
  clear hs
  go_enter Tryd.func46, Tryd.ntmps46
  go_wp2_with (refine append_copy rfl (.tmp 3) (.tmp 4) rfl rfl a len cap l rfl HS.out ?_; intro a3 c3 w3 ho hx hb; have HB := hide hb; clear ho hx hb)
  go_ret
  exact ⟨w3.heap.size, HB.out.size, rfl, HB.out.alloc HB.out.size _⟩
end Go.Proofs.YtohoncgkekiihaaDoor
