/-
  What the reading of the law's lists (records, bytes, numbers, a text) gives, where they are of no great bulk.
-/
import Derived.Test.YtcgielkdobnkkaaDoorBulkOpen
import Derived.Test.YtcgielkdobnkkaaDoorWtRecs
namespace Go.Proofs.YtcgielkdobnkkaaDoor
open Go.ChangeShapes Go.WideShapes Go.ChangeAt Go.RowKit Go.Deep FerryCrc
set_option linter.unusedVariables false
set_option linter.unusedSimpArgs false

theorem cellsI7 : Tryd.prog.cellsOf 3 = 1 := by kernel_rfl
theorem cellsS7 : Tryd.prog.cellsOf 9 = 1 := by kernel_rfl
theorem cellsLs : Tryd.prog.cellsOf 55 = 4 := by kernel_rfl
theorem cellsR2 : Tryd.prog.cellsOf 82 = 2 := by kernel_rfl
theorem cellsB1 : Tryd.prog.cellsOf 5 = 1 := by kernel_rfl
theorem cellsBs : Tryd.prog.cellsOf 41 = 1 := by kernel_rfl
theorem cellsIs : Tryd.prog.cellsOf 53 = 1 := by kernel_rfl
theorem cellsRs : Tryd.prog.cellsOf 52 = 1 := by kernel_rfl

theorem bulk_lits {H : Type} (k : IntKind) (zs : List Int) : Rows.uptoBulkAll (lits (H := H) k zs) = zs.length := by
  induction zs with
  | nil => rfl
  | cons z zs ih =>
    have h : lits (H := H) k (z :: zs) = .lit (.int k z) :: lits k zs := rfl
    rw [h, Rows.uptoBulkAll, ih, List.length_cons, Rows.uptoBulk]
    · omega
    · intro b e; cases e

theorem bytes_row {w : World} {a : Option Addr} {len cap : Nat} {zs : List Int} (x : Addr) (ha : a = some x) (hl : len ≤ cap) (hz : zs.length = cap) (hr : cap ≤ 140737488351232)
    (hc : ∀ i, i < zs.length → w.cell? (x.add i) = some (.int .u8 (zs.getD i 0))) (hw : ∀ n ∈ zs, (Lit.int .u8 n).wf = true) : Bts w a len cap ((zs.take len).map Int.toNat) := by
  have hb : ∀ n ∈ zs, 0 ≤ n ∧ n < 256 := fun n hn => by have := bounds_u8 (hw n hn); omega
  refine ⟨by simp; omega, by omega, hl, ?_, fun e => by rw [ha] at e; simp at e, ?_⟩
  · intro c hc'
    obtain ⟨n, hn, rfl⟩ := List.mem_map.1 hc'
    have := hb n (List.mem_of_mem_take hn)
    omega
  · intro k hk
    have hcell := hc k (by omega)
    obtain ⟨b, off, spot⟩ := x
    have hspot : spot = none := by simpa [Addr.add] using World.cell?_spot (hc 0 (by omega))
    subst hspot
    have hkz : k < zs.length := by omega
    refine ⟨b, off, ha, (zs[k]).toNat, by simp [hk, hkz], ?_⟩
    have hn := hb _ (List.getElem_mem hkz)
    rw [Int.toNat_of_nonneg hn.1]
    rw [add_plain7] at hcell
    simpa [hkz] using hcell

theorem bytes_bulk {H : Type} {enc : TypeId × Value → H} {W : World} {fuel : Nat} {cs : List Value} {x : DataW H × List MemPlace}
    (hf : DataW.trod enc Tryd.prog W 0 (fun _ => true) true fuel 41 cs = some x) (hb : Rows.uptoBulk x.1 ≤ 1048576) :
    ∃ a n c l, cs = [.slice a n c] ∧ Bts W a n c l ∧ n ≤ Rows.uptoBulk x.1 := by
  rcases open_ints Tryd.underlying41 Tryd.underlying5 cellsB1 hf with ⟨hcs, _⟩ | ⟨ad, l, c, zs, hcs, _, hl, hm, hz, hx, hcell, hwz⟩
  · exact ⟨none, 0, 0, [], hcs, ⟨rfl, by decide, by decide, by simp, fun _ => ⟨rfl, rfl⟩, fun k hk => by omega⟩, by omega⟩
  · simp only [if_true] at hz
    rw [hx] at hb ⊢
    simp only [Rows.uptoBulk, bulk_lits, List.length_take, List.length_drop] at hb ⊢
    exact ⟨some ad, l, c, _, hcs, bytes_row ad rfl hl hz (by omega) hcell hwz, by omega⟩

set_option maxRecDepth 100000 in
theorem rec_bulk {H : Type} {enc : TypeId × Value → H} {W : World} {fuel : Nat} {cs : List Value} {x : DataW H × List MemPlace}
    (h2 : DataW.trod enc Tryd.prog W 0 (fun _ => true) true fuel 82 cs = some x) (hlen : cs.length = 2) (hb : Rows.uptoBulk x.1 ≤ 1048576) :
    ∃ p : JW, (Bts W p.a p.n p.c p.l ∧ p.l.length ≤ 1048576) ∧ cs = p.cells := by
  obtain ⟨xs, n, _, hx, _, hxl, hff⟩ := DataW.trod_struct Tryd.underlying82 h2
  match xs, hxl, cs, hlen with
  | [y0, y1], _, [v0, v1], _ =>
    have g0 := hff 0 _ rfl
    have g1 := hff 1 _ rfl
    simp [cellsI7, cellsBs] at g0 g1
    subst hx
    have hb1 := bulk_mem (d := y1.1) (ds := [y0, y1].map (·.1)) (by simp)
    have hb2 : Rows.uptoBulkAll ([y0, y1].map (·.1)) ≤ Rows.uptoBulk (H := H) (.agg ([y0, y1].map (·.1))) := by
      rw [Rows.uptoBulk]
      omega
    have hb3 : Rows.uptoBulk y1.1 ≤ 1048576 := Nat.le_trans (Nat.le_trans hb1 hb2) hb
    obtain ⟨z0, e0, _, b0⟩ := DataW.trod_int Tryd.underlying3 g0
    obtain ⟨a, m, c, l, e1, hB, hm⟩ := bytes_bulk g1 hb3
    simp only [List.cons.injEq, and_true] at e0 e1
    subst e0 e1
    exact ⟨⟨z0, a, m, c, l⟩, ⟨hB, by rw [hB.size]; omega⟩, rfl⟩

set_option maxRecDepth 100000 in
theorem lists_bulk {H : Type} {enc : TypeId × Value → H} {W : World} {fuel : Nat} {cs : List Value} {x : DataW H × List MemPlace}
    (hf : DataW.trod enc Tryd.prog W 0 (fun _ => true) true fuel 55 cs = some x) (hb : Rows.uptoBulk x.1 ≤ 1048576) :
    ∃ (a : Option Addr) (len cap : Nat) (rs : List JW) (ab : Option Addr) (nb cb : Nat) (B : List Nat) (at_ : Option Addr) (nt ct : Nat) (ts : List Int) (S : ByteArray),
      cs = [.slice a len cap, .slice ab nb cb, .slice at_ nt ct, .string S] ∧ Rcs JW.cells 2 W a len cap rs ∧ (∀ r ∈ rs, Bts W r.a r.n r.c r.l ∧ r.l.length ≤ 1048576) ∧ len ≤ 1048576 ∧ Bts W ab nb cb B ∧ nb ≤ 1048576 ∧
      Rcs (fun t : Int => [.int .i64 t]) 1 W at_ nt ct ts ∧ (∀ t ∈ ts, -9223372036854775808 ≤ t ∧ t ≤ 9223372036854775807) ∧ nt ≤ 1048576 ∧ S.size ≤ 1048576 := by
  obtain ⟨xs, n, _, hx, hcl, hxl, hff⟩ := DataW.trod_struct Tryd.underlying55 hf
  rw [cellsLs] at hcl
  match xs, hxl, cs, hcl with
  | [y0, y1, y2, y3], _, [v0, v1, v2, v3], _ =>
    have g0 := hff 0 _ rfl
    have g1 := hff 1 _ rfl
    have g2 := hff 2 _ rfl
    have g3 := hff 3 _ rfl
    simp [cellsRs, cellsBs, cellsIs, cellsS7] at g0 g1 g2 g3
    subst hx
    have hb2 : Rows.uptoBulkAll ([y0, y1, y2, y3].map (·.1)) ≤ Rows.uptoBulk (H := H) (.agg ([y0, y1, y2, y3].map (·.1))) := by
      rw [Rows.uptoBulk]
      omega
    have hbb : Rows.uptoBulkAll ([y0, y1, y2, y3].map (·.1)) ≤ 1048576 := Nat.le_trans hb2 hb
    have q0 : Rows.uptoBulk y0.1 ≤ 1048576 := Nat.le_trans (bulk_mem (by simp)) hbb
    have q1 : Rows.uptoBulk y1.1 ≤ 1048576 := Nat.le_trans (bulk_mem (by simp)) hbb
    have q2 : Rows.uptoBulk y2.1 ≤ 1048576 := Nat.le_trans (bulk_mem (by simp)) hbb
    have q3 : Rows.uptoBulk y3.1 ≤ 1048576 := Nat.le_trans (bulk_mem (by simp)) hbb
    haveI : Inhabited JW := ⟨⟨0, none, 0, 0, []⟩⟩
    obtain ⟨a, len, cap, rs, e0, hR, hok, hl⟩ := recs_open (f := JW.cells) (sz := 2) (OK := fun p => Bts W p.a p.n p.c p.l ∧ p.l.length ≤ 1048576) JW.len (by decide) Tryd.underlying52 cellsR2 g0 (fun n cs' y h2 hlen hy => rec_bulk h2 hlen (Nat.le_trans hy q0))
    obtain ⟨ab, nb, cb, B, e1, hB, hnb⟩ := bytes_bulk g1 q1
    obtain ⟨at_, nt, ct, ts, e2, hT, hokt, hnt⟩ := recs_open (f := fun t : Int => [.int .i64 t]) (sz := 1) (OK := fun t => -9223372036854775808 ≤ t ∧ t ≤ 9223372036854775807) (fun _ => rfl) (by decide) Tryd.underlying53 cellsI7 g2 (fun n cs' y h2 hlen hy => by
      obtain ⟨z, e, _, bz⟩ := DataW.trod_int Tryd.underlying3 h2
      have := bounds_i64 bz
      exact ⟨z, ⟨by omega, by omega⟩, e⟩)
    obtain ⟨z3, e3, x3, _⟩ := DataW.trod_string Tryd.underlying9 g3
    have h9 : z3.size + 1 ≤ Rows.uptoBulk y3.1 := by
      rw [x3]
      simp only [Rows.uptoBulk]
      exact Nat.le_refl _
    simp only [List.cons.injEq, and_true] at e0 e1 e2 e3
    subst e0 e1 e2 e3
    exact ⟨a, len, cap, rs, ab, nb, cb, B, at_, nt, ct, ts, z3, rfl, hR, hok, by omega, hB, by omega, hT, hokt, by omega, by omega⟩

theorem jroom_bound {rs : List JW} {k : Nat} (h : ∀ r ∈ rs, r.l.length ≤ k) : jroom rs ≤ rs.length * (k + 4) := by
  induction rs with
  | nil => exact Nat.zero_le _
  | cons r rs ih =>
    have h1 := ih (fun q hq => h q (List.mem_cons_of_mem _ hq))
    have h2 := h r (List.mem_cons_self ..)
    have e : jroom (r :: rs) = (r.l.length + 4) + jroom rs := by unfold jroom; rw [List.map_cons, List.sum_cons]
    rw [e, List.length_cons, Nat.add_mul]
    omega
end Go.Proofs.YtcgielkdobnkkaaDoor
