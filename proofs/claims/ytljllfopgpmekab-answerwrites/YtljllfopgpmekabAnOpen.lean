/- How an answer that comes in by value is opened. -/
import Derived.Test.YtljllfopgpmekabOpen
import Derived.Test.YtljllfopgpmekabAn1
import Derived.Lib.SmallJoins
-- prune
namespace Go.Proofs.Ytljllfopgpmekab
open Go.ChangeShapes Go.WideShapes Go.ChangeAt Go.RowKit
set_option linter.unusedVariables false

section
variable {H : Type} {enc : TypeId × Value → H} {w : World} {base : Nat} {held : Bool}
set_option maxRecDepth 100000 in
theorem cellsAn : Try.prog.cellsOf 43 = 11 ∧ Try.prog.cellsOf 70 = 5 ∧ Try.prog.cellsOf 26 = 2 ∧ Try.prog.cellsOf 68 = 4 ∧ Try.prog.cellsOf 24 = 4 ∧ Try.prog.cellsOf 3 = 1 ∧ Try.prog.cellsOf 4 = 1 ∧ Try.prog.cellsOf 9 = 1 ∧ Try.prog.cellsOf 40 = 1 ∧ Try.prog.cellsOf 41 = 1 ∧ Try.prog.cellsOf 31 = 1 :=
  ⟨by kernel_rfl, by kernel_rfl, by kernel_rfl, by kernel_rfl, by kernel_rfl, by kernel_rfl, by kernel_rfl, by kernel_rfl, by kernel_rfl, by kernel_rfl, by kernel_rfl⟩
theorem field_at {fuel : Nat} {t : TypeId} {fs : Array Field} {cs : List Value} {x : DataW H × List MemPlace} (ht : Try.prog.underlying t = some (.struct fs)) (hf : DataW.trod enc Try.prog w base (fun _ => true) held fuel t cs = some x) (i : Nat) (T : TypeId) (off n : Nat)
    (hi : (fs[i]?).map (fun f => (f.type, f.offset)) = some (T, off)) (hn : Try.prog.cellsOf T = n) : ∃ m y, DataW.trod enc Try.prog w base (fun _ => true) held m T (List.take n (List.drop off cs)) = some y := by
  obtain ⟨f, hf0, e⟩ := Option.map_eq_some_iff.1 hi
  injection e with e1 e2
  subst e1 e2 hn
  obtain ⟨ys, m, _, _, _, hlen, hall⟩ := DataW.trod_struct ht hf
  have hlt : i < ys.length := by
    have := (Array.getElem?_eq_some_iff.1 hf0).1
    rw [hlen]; exact this
  have := hall i f hf0
  rw [List.getElem?_eq_getElem hlt] at this
  exact ⟨m, _, this⟩
set_option maxRecDepth 100000 in
theorem an_int {fuel : Nat} {c : Value} {x : DataW H × List MemPlace} (hf : DataW.trod enc Try.prog w base (fun _ => true) held fuel 3 [c] = some x) : ∃ a : Int, c = .int .i64 a := by
  obtain ⟨a, e, _, _⟩ := DataW.trod_int Try.underlying3 hf
  simp at e
  exact ⟨a, e⟩
set_option maxRecDepth 100000 in
theorem an_code {fuel : Nat} {c : Value} {x : DataW H × List MemPlace} (hf : DataW.trod enc Try.prog w base (fun _ => true) held fuel 31 [c] = some x) : ∃ a : Int, c = .int .i64 a := by
  obtain ⟨a, e, _, _⟩ := DataW.trod_int Try.underlying31 hf
  simp at e
  exact ⟨a, e⟩
set_option maxRecDepth 100000 in
theorem an_four {fuel : Nat} {c0 c1 c2 c3 : Value} {x : DataW H × List MemPlace} (hf : DataW.trod enc Try.prog w base (fun _ => true) held fuel 24 [c0, c1, c2, c3] = some x) : ∃ k l v b : Int, c0 = .int .i64 k ∧ c1 = .int .i64 l ∧ c2 = .int .i64 v ∧ c3 = .int .i64 b := by
  obtain ⟨_, _, _, _, _, ci, _⟩ := cellsAn
  obtain ⟨_, _, h0⟩ := field_at Try.underlying24 hf 0 3 0 _ rfl ci
  obtain ⟨_, _, h1⟩ := field_at Try.underlying24 hf 1 3 1 _ rfl ci
  obtain ⟨_, _, h2⟩ := field_at Try.underlying24 hf 2 3 2 _ rfl ci
  obtain ⟨_, _, h3⟩ := field_at Try.underlying24 hf 3 3 3 _ rfl ci
  obtain ⟨k, q0⟩ := an_int h0
  obtain ⟨l, q1⟩ := an_int h1
  obtain ⟨v, q2⟩ := an_int h2
  obtain ⟨b, q3⟩ := an_int h3
  exact ⟨k, l, v, b, q0, q1, q2, q3⟩
set_option maxRecDepth 100000 in
theorem an_ver {fuel : Nat} {c0 c1 c2 c3 : Value} {x : DataW H × List MemPlace} (hf : DataW.trod enc Try.prog w base (fun _ => true) held fuel 68 [c0, c1, c2, c3] = some x) : ∃ (k : Bool) (l v b : Int), c0 = .bool k ∧ c1 = .int .i64 l ∧ c2 = .int .i64 v ∧ c3 = .int .i64 b := by
  obtain ⟨_, _, _, _, _, ci, cb, _⟩ := cellsAn
  obtain ⟨_, _, h0⟩ := field_at Try.underlying68 hf 0 4 0 _ rfl cb
  obtain ⟨_, _, h1⟩ := field_at Try.underlying68 hf 1 3 1 _ rfl ci
  obtain ⟨_, _, h2⟩ := field_at Try.underlying68 hf 2 3 2 _ rfl ci
  obtain ⟨_, _, h3⟩ := field_at Try.underlying68 hf 3 3 3 _ rfl ci
  obtain ⟨k, q0, _⟩ := DataW.trod_bool Try.underlying4 h0
  obtain ⟨l, q1⟩ := an_int h1
  obtain ⟨v, q2⟩ := an_int h2
  obtain ⟨b, q3⟩ := an_int h3
  simp at q0
  exact ⟨k, l, v, b, q0, q1, q2, q3⟩
set_option maxRecDepth 100000 in
theorem an_td (fuel : Nat) (cs : List Value) (x : DataW H × List MemPlace) (hf : DataW.trod enc Try.prog w base (fun _ => true) held fuel 70 cs = some x) : ∃ t : Td, cs = tdC t ∧ True := by
  obtain ⟨ys, m, _, _, hlen, _, _⟩ := DataW.trod_struct Try.underlying70 hf
  obtain ⟨_, c5, _, c4, _, ci, _, _, _, _, ce⟩ := cellsAn
  rw [c5] at hlen
  match cs, hlen with
  | [d0, d1, d2, d3, d4], _ =>
    obtain ⟨_, _, h0⟩ := field_at Try.underlying70 hf 0 31 0 _ rfl ce
    obtain ⟨_, _, h1⟩ := field_at Try.underlying70 hf 1 68 1 _ rfl c4
    obtain ⟨c, q0⟩ := an_code h0
    obtain ⟨k, l, v, b, q1, q2, q3, q4⟩ := an_ver h1
    exact ⟨⟨c, k, l, v, b⟩, by rw [q0, q1, q2, q3, q4]; rfl, trivial⟩
set_option maxRecDepth 100000 in
theorem an_nm (fuel : Nat) (cs : List Value) (x : DataW H × List MemPlace) (hf : DataW.trod enc Try.prog w base (fun _ => true) held fuel 26 cs = some x) : ∃ t : Nm, cs = nmC t ∧ t.key.size ≤ maxLen := by
  obtain ⟨ys, m, _, _, hlen, _, _⟩ := DataW.trod_struct Try.underlying26 hf
  obtain ⟨_, _, c2, _, _, ci, _, cs1, _⟩ := cellsAn
  rw [c2] at hlen
  match cs, hlen with
  | [d0, d1], _ =>
    obtain ⟨_, _, h0⟩ := field_at Try.underlying26 hf 0 3 0 _ rfl ci
    obtain ⟨_, _, h1⟩ := field_at Try.underlying26 hf 1 9 1 _ rfl cs1
    obtain ⟨c, q0⟩ := an_int h0
    obtain ⟨s, q1, _, q2⟩ := DataW.trod_string Try.underlying9 h1
    simp at q1
    exact ⟨⟨c, s⟩, by rw [q0, q1]; rfl, q2⟩
set_option maxRecDepth 100000 in
theorem open_an {r : Reach} {b0 : Nat} {v : Value} {d : DataW H} {p : List MemPlace} (hv : Value.okWide Try.prog w r b0 43 v) (h : DataW.Trod enc Try.prog w base (fun _ => true) held 43 v d p) : ∃ a, IsAn w v a := by
  simp only [Value.okWide, Try.underlying43] at hv
  obtain ⟨cs, rfl, hs, _⟩ := hv
  obtain ⟨fuel, hf⟩ := h
  obtain ⟨ys, m, _, _, hlen, _, _⟩ := DataW.trod_struct Try.underlying43 hf
  obtain ⟨c11, c5, c2, c4, cp, ci, _, _, ct, cn, ce⟩ := cellsAn
  rw [c11] at hlen
  obtain ⟨L, rfl⟩ : ∃ L : List Value, cs = L.toArray := ⟨cs.toList, by simp⟩
  have e1 : (Value.agg L.toArray).cells.toList = L := by simp [Value.cells]
  rw [e1] at hf hlen
  match L, hlen with
  | [d0, d1, d2, d3, d4, d5, d6, d7, d8, d9, d10], _ =>
    obtain ⟨_, _, h0⟩ := field_at Try.underlying43 hf 0 3 0 _ rfl ci
    obtain ⟨_, _, h1⟩ := field_at Try.underlying43 hf 1 31 1 _ rfl ce
    obtain ⟨_, _, h2⟩ := field_at Try.underlying43 hf 2 40 2 _ rfl ct
    obtain ⟨_, _, h3⟩ := field_at Try.underlying43 hf 3 3 3 _ rfl ci
    obtain ⟨_, _, h4⟩ := field_at Try.underlying43 hf 4 24 4 _ rfl cp
    obtain ⟨_, _, h5⟩ := field_at Try.underlying43 hf 5 3 8 _ rfl ci
    obtain ⟨_, _, h6⟩ := field_at Try.underlying43 hf 6 3 9 _ rfl ci
    obtain ⟨_, _, h7⟩ := field_at Try.underlying43 hf 7 41 10 _ rfl cn
    obtain ⟨a0, q0⟩ := an_int h0
    obtain ⟨a1, q1⟩ := an_code h1
    obtain ⟨a3, q3⟩ := an_int h3
    obtain ⟨a4, a5, a6, a7, q4, q5, q6, q7⟩ := an_four h4
    obtain ⟨a8, q8⟩ := an_int h5
    obtain ⟨a9, q9⟩ := an_int h6
    obtain ⟨A, ca, T, q2, t1, t2, ts, _⟩ := open_seq Try.underlying40 c5 (by decide) tdC_len an_td h2
    obtain ⟨N, cn, M, q10, n1, n2, ns, ks⟩ := open_seq Try.underlying41 c2 (by decide) nmC_len an_nm h7
    exact ⟨⟨a0, a1, T, a3, a4, a5, a6, a7, a8, a9, M⟩, A, ca, N, cn, by rw [q0, q1, q2, q3, q4, q5, q6, q7, q8, q9, q10]; rfl, ⟨t1, t2, n1, n2, ts, ns, ks⟩⟩
end
end Go.Proofs.Ytljllfopgpmekab
