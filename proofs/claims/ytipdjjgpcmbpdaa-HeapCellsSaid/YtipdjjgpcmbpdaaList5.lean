/- Contracts of list.cut, Pop. -/
import Derived.Test.YtipdjjgpcmbpdaaList4
namespace Go.Proofs.Ytipdjjgpcmbpdaa.Li
open Go.RowKit Go.ChangeShapes Go.WideShapes Go.ChangeAt Go.Proofs.Ytipdjjgpcmbpdaa.Va

theorem results_none {P : Program} {fn : Func} (h : fn.results = #[]) (tmps : Array Value) (w : World) : (results fn tmps).run P w = .ok (.tuple #[]) w := by simp [results, h]
theorem zero_cells : (Value.agg #[.int .i64 0, .int .i64 0, .string ⟨#[]⟩]).cells = #[.int .i64 0, .int .i64 0, .string ⟨#[]⟩] := rfl
theorem zero_one (n : Nat) : ∀ u ∈ (Builtin.zeroCells (Value.agg #[.int .i64 0, .int .i64 0, .string ⟨#[]⟩]).cells n).toList, u.oneCell' = true := by
  intro u hu
  rw [zero_cells] at hu
  simp only [Builtin.zeroCells, Array.mem_toList_iff, Array.mem_map] at hu
  obtain ⟨i, _, rfl⟩ := hu
  have h3 : i % 3 = 0 ∨ i % 3 = 1 ∨ i % 3 = 2 := by omega
  show ((#[.int .i64 0, .int .i64 0, .string ⟨#[]⟩] : Array Value)[i % 3]!).oneCell' = true
  rcases h3 with e | e | e <;> rw [e] <;> rfl
set_option maxRecDepth 100000 in
theorem run_clear3 {B cap g n c : Nat} {w : World} {L : List (Int × Int × ByteArray)} (hn : n < L.length) (h : Own B (some ⟨g, 0, none⟩) cap w L) :
    ∃ w', (∀ ty, (Builtin.clear_ #[74] ty #[.slice (some ⟨g, n * 3, none⟩) (L.length - n) c]).run Try.prog w = .ok (.tuple #[]) w') ∧ Own B (some ⟨g, 0, none⟩) cap w' (L.take n) ∧ w.grownBy w' (some g) := by
  obtain ⟨i0, hi0, hz0, hz1, hz2⟩ := info_parts A.infoE
  rcases h.2 with ⟨hx, _⟩ | ⟨g', c', cur, hx, hBg, hg, hnc, hcm, hcs, htake⟩
  · cases hx
  simp only [Value.slice.injEq, Option.some.injEq, Addr.mk.injEq, and_true, true_and] at hx
  obtain ⟨rfl, rfl⟩ := hx
  have hzl : (Builtin.zeroCells (Value.agg #[.int .i64 0, .int .i64 0, .string ⟨#[]⟩]).cells (L.length - n)).toList.length = (L.length - n) * 3 := by
    rw [Array.length_toList, size_zeroCells]; rfl
  have hst := run_storeCells_at Try.prog g (n * 3) 30 _ 0 cur w hg (by rw [hzl, hcs]; omega) (zero_one (L.length - n))
  have hzo := hzl
  obtain ⟨m, hm⟩ : ∃ m, L.length - n = m + 1 := ⟨L.length - n - 1, by omega⟩
  generalize hZ : (Builtin.zeroCells (Value.agg #[.int .i64 0, .int .i64 0, .string ⟨#[]⟩]).cells (L.length - n)).toList = Z at *
  have hcl : cur.toList.length = cap * 3 := by rw [Array.length_toList, hcs]
  have hlen : (L.take n).length = n := by rw [List.length_take]; omega
  refine ⟨w.setRow g (cur.toList.take (n * 3 + 0) ++ Z ++ cur.toList.drop (n * 3 + 0 + Z.length)).toArray, fun ty => ?_, ⟨flat_len _, .inr ⟨g, cap, _, by rw [hlen], hBg, setRow_heap w g cur _ _ _ hg, by rw [hlen]; omega, hcm, ?_, ?_⟩⟩, ⟨rfl, rfl, rfl, by simp [World.setRow], fun k hk hne => setRow_other w g k _ (fun e => hne (by simp [e]))⟩⟩
  · rw [hm] at hZ ⊢
    have hz : ∀ w, (zeroValue 30).run Try.prog w = .ok (.agg #[.int .i64 0, .int .i64 0, .string ⟨#[]⟩]) w := fun w => by simp [zeroValue, typeInfo, hi0, hz0]
    simp [Builtin.clear_, run_underlying Try.underlying74, hz, hZ, hst]
  · simp only [List.size_toArray, List.length_append, List.length_take, List.length_drop, hzl, hcl]; omega
  · rw [hlen]
    show ((cur.toList.take (n * 3 + 0) ++ Z) ++ _).take (n * 3) = _
    rw [List.append_assoc, List.take_append_of_le_length (by rw [List.length_take]; omega), List.take_take, show min (n * 3) (n * 3 + 0) = n * 3 by omega, ← take_flat L n (by omega), ← htake, List.take_take]
    congr 1; omega

set_option maxRecDepth 100000 in
theorem clear_nothing (ad : Option Addr) (c : Nat) (w : World) (ty : TypeId) : (Builtin.clear_ #[74] ty #[.slice ad 0 c]).run Try.prog w = .ok (.tuple #[]) w := by
  cases ad <;> simp [Builtin.clear_, run_underlying Try.underlying74]

theorem wpList_clear_run {P : Program} (w : World) {ops : Array Oper} {rest : List Oper} {o : Oper} {a : Act} {Q : Exit → Act → World → Prop} (hgd : o.guard = none) (x : Operand) (t : TypeId)
    (ho : o.op = .call { callee := .builtin .clear, args := #[x], argTypes := #[t] }) (vx : Value) (hx : a.eval x = vx)
    (v' : Value) (w' : World) (hr : (Builtin.clear_ #[t] o.type #[vx]).run P w = .ok v' w') (h : wpList P ops Q rest (a.put o.dst v') w') : wpList P ops Q (o :: rest) a w :=
  wpList_plain hgd fun _ hK => by
    unfold Oper.wp execOp
    simp only [ho, resolve, invoke, builtin, Sem.run_bind, Sem.run_pure, Result.andThen_ok, List.map_toArray, List.map_cons, List.map_nil, hx, hr]
    exact hK _ _ h

/-- A list is now these values, in its old row; nothing else has turned. -/
def Same (B b : Nat) (ad : Option Addr) (cap : Nat) (w w' : World) (L : List (Int × Int × ByteArray)) : Prop := IsL B b ad cap w' L ∧ Upd b ad w w'
theorem same_store {B b cap : Nat} {ad : Option Addr} {w w4 : World} {L : List (Int × Int × ByteArray)} {old : Value} (hlow : B ≤ b) (hown : Own B ad cap w4 L) (hb4 : w4.heap[b]? = some (.cells #[old] 120 (0, 0)))
    (hgr : w.grownBy w4 (ad.map (·.block))) (n : Nat) (hn : n = L.length) : Same B b ad cap w (w4.setCell ⟨b, 0, none⟩ (.slice ad n cap)) L := by
  subst hn
  refine ⟨⟨one_setCell hb4, hlow, own_move hown fun g e => ?_⟩, upd_grown hgr _⟩
  have hne : g ≠ b := by rintro rfl; exact own_apart hown hb4 e
  simp only [World.setCell, Array.getElem?_modify]
  rw [if_neg (fun e => hne e.symm)]
theorem same_below {B b cap : Nat} {ad : Option Addr} {w W w' : World} {L : List (Int × Int × ByteArray)} (hb : Below w.heap.size w W) (h : Same B b ad cap W w' L) : Same B b ad cap w w' L :=
  ⟨h.1, ⟨h.2.os.trans hb.os, h.2.tape.trans hb.tape, h.2.output.trans hb.output, Nat.le_trans hb.size h.2.size, fun k hk h1 h2 => (h.2.block k (Nat.lt_of_lt_of_le hk hb.size) h1 h2).trans (hb.block k hk)⟩⟩
theorem same_set {B b cap : Nat} {ad : Option Addr} {w W : World} {L : List (Int × Int × ByteArray)} (h : Same B b ad cap w W L) (hb : b < w.heap.size) (hg : ∀ g, ad.map (·.block) = some g → g < w.heap.size) {p : Addr} (hp : w.heap.size ≤ p.block) (v : Value) : Same B b ad cap w (W.setCell p v) L := by
  have hk : ∀ k, k < w.heap.size → (W.setCell p v).heap[k]? = W.heap[k]? := fun k hk => by
    simp only [World.setCell, Array.getElem?_modify]
    rw [if_neg (by omega)]
  refine ⟨⟨(hk b hb).trans h.1.blk, h.1.low, own_move h.1.own fun g e => hk g (hg g e)⟩, ⟨h.2.os, h.2.tape, h.2.output, by simpa [World.setCell] using h.2.size, fun k h1 h2 h3 => (hk k h1).trans (h.2.block k h1 h2 h3)⟩⟩
theorem same_now {B b cap : Nat} {ad : Option Addr} {w W : World} {L : List (Int × Int × ByteArray)} (h : Same B b ad cap w W L) : Now B b ad w W L := ⟨ad, cap, h.1, h.2, fun _ h => Or.inl h⟩

theorem now_below {B b : Nat} {ad : Option Addr} {w W w' : World} {L : List (Int × Int × ByteArray)} (hb : Below w.heap.size w W) (h : Now B b ad W w' L) : Now B b ad w w' L := by
  obtain ⟨a1, c1, h1, hu, hfr⟩ := h
  exact ⟨a1, c1, h1, ⟨hu.os.trans hb.os, hu.tape.trans hb.tape, hu.output.trans hb.output, Nat.le_trans hb.size hu.size, fun k hk h1 h2 => (hu.block k (Nat.lt_of_lt_of_le hk hb.size) h1 h2).trans (hb.block k hk)⟩, fun g hg => (hfr g hg).imp id fun h => Nat.le_trans hb.size h⟩
theorem now_after {B b : Nat} {ad : Option Addr} {w W w' : World} {L : List (Int × Int × ByteArray)} (h : Now B b ad w W L) (hb : Below W.heap.size W w') : Now B b ad w w' L := by
  obtain ⟨a1, c1, h1, hu, hfr⟩ := h
  exact ⟨a1, c1, isL_below h1 hb, ⟨hb.os.trans hu.os, hb.tape.trans hu.tape, hb.output.trans hu.output, Nat.le_trans hu.size hb.size, fun k hk h1 h2 => (hb.block k (Nat.lt_of_lt_of_le hk hu.size)).trans (hu.block k hk h1 h2)⟩, hfr⟩
end Go.Proofs.Ytipdjjgpcmbpdaa.Li
