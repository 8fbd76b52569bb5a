/- Keys and Len of a nil table. -/
import Derived.Test.YtgcdminjpdbchaaDoorRbSort
namespace Go.Proofs.YtgcdminjpdbchaaDoor
open Go.ChangeShapes Go.WideShapes Go.ChangeAt Go.RowKit Go.Shelf Go.Sort
set_option linter.unusedVariables false
attribute [local go_sem] Oper.semAt_some

def NR (Bn c : Nat) : Prop := c = Bn
set_option maxRecDepth 100000 in
set_option maxHeartbeats 1000000 in
theorem used1_none (nn : Nat) (hn1 : 1 ≤ nn) (l Bn : Nat) (J Jx : List RS → World → Prop) (W : World) (hG : Has W Bn 26 [.pointer none]) (h0 : J [] W) :
    CallsIn Fence.wide nn Tryd.prog 38 #[.func (.yield l) #[] #[], .pointer (some ⟨Bn, 0, none⟩)] W fun e W' => (∃ v, e = .returned v) ∧
      ((∃ ys, ys = [] ∧ J ys W') ∨ (∃ pre, pre.length ≤ 0 ∧ Jx pre W')) := by
  have b0 := hG.cell 0
  simp at b0
  have H0 := Lib.hid h0
  clear hG h0
  refine callsIn_of_wp Tryd.func38 rfl trivial ?_ rfl
  simp only [Tryd.ntmps38, List.size_toArray, List.length_cons, List.length_nil, Nat.reduceAdd, Nat.reduceSub, Array.replicate_succ, Array.replicate_zero, List.push_toArray, List.append_toArray, List.nil_append, List.cons_append]
  gi_wp2
  refine bodyPost_ret (results_none rfl _ _ _) rfl ?_
  exact ⟨⟨_, rfl⟩, .inl ⟨_, rfl, H0.out⟩⟩
theorem none_stops (nn : Nat) (hn1 : 1 ≤ nn) (Bn : Nat) (w : World) (hG : Has w Bn 26 [.pointer none]) :
    SeqStopsK Fence.wide nn Tryd.prog 38 #[.pointer (some ⟨Bn, 0, none⟩)] (fun x : RS => #[Value.string x.k]) (KeepS (NR Bn)) (fun ys => ys = []) (fun pre => pre.length ≤ 0) 0 w := fun l J Jx W hW _ _ hY h0 =>
  used1_none nn hn1 l Bn J Jx W (hG.below hW hG.lt) h0
set_option maxRecDepth 100000 in
set_option maxHeartbeats 2000000 in
theorem Len_nil (w : World) : Calls Tryd.prog 15 #[.pointer none] w fun e w' => e = .returned (.int .i64 0) ∧ Below w.heap.size w w' := by
  refine (callsIn_wide (n := 4)).1 ?_
  refine callsIn_of_wp_marks Tryd.func15 rfl trivial ?_ rfl
  simp only [Tryd.ntmps15, List.size_toArray, List.length_cons, List.length_nil, Nat.reduceAdd, Nat.reduceSub, Array.replicate_succ, Array.replicate_zero, List.push_toArray, List.append_toArray, List.nil_append, List.cons_append]
  gi_wp2
  refine ⟨trivial, ?_⟩
  refine (used_in _ _ _).mono ?_
  rintro e w1 ⟨rfl, rfl⟩
  gi_wp2
  obtain ⟨W0, hW0⟩ : ∃ W0, ((w.alloc (.cells #[.int .i64 0] 3)).alloc (.cells #[.pointer none] 26)) = W0 := ⟨_, rfl⟩
  rw [hW0]
  have hsz : W0.heap.size = w.heap.size + 1 + 1 := by rw [← hW0]; simp
  have hB0 : Below w.heap.size w W0 := by rw [← hW0]; exact ((Below.refl _ w).alloc (Nat.le_refl _) _).alloc (by simp) _
  have bO : Boxed W0 w.heap.size 3 (.int .i64 0) := by rw [← hW0]; exact (Boxed.new w 3 (.int .i64 0)).alloc _
  have bN : Has W0 (w.heap.size + 1) 26 [.pointer none] := by
    have := Has.made (w.alloc (.cells #[.int .i64 0] 3)) 26 [.pointer none]
    rw [World.size_alloc] at this
    rw [← hW0]
    exact this
  have hI : OwnFrom W0.heap.size (LenI w) := OwnFrom.and (Own.from (boxed_own _ _ (fun (pre : List RS) => Value.int .i64 (pre.length : Int))) _) (ownFrom_below (Nat.le_refl _) (by omega))
  have hI0 : LenI w [] W0 := ⟨bO, hB0⟩
  have hseq := none_stops (4 - 1) (by omega) (w.heap.size + 1) W0 bN
  clear hW0
  refine wpIn_rangeFunc_ownG (F := Fence.wide) (n := 4) (w := W0) rfl (by omega) (gf := 38) (lb := #[.pointer (some ⟨w.heap.size + 1, 0, none⟩)]) rfl trivial (enters_of Tryd.func38 (by kernel_rfl) rfl)
    hseq (fun h k => h.trans k) (fun W l o o' _ hl ho _ => KeepS.putObj o' hl ho) (Below.refl _ _) (fun _ => rfl)
    (LenI w) (fun _ _ _ => False) hI (fun _ _ _ _ _ hs _ _ => hs) hI0
    (fun x => { tmps := #[.pointer none, undef, .int .i64 0, .pointer (some ⟨w.heap.size, 0, none⟩), .pointer none, .func (.func 38) #[] #[.pointer (some ⟨w.heap.size + 1, 0, none⟩)], .string x.k, undef, undef, undef], defers := [] }) ?assign ?body ?done ?stop
  case assign =>
    intro l x W K hK
    gi_wp2
    simpa using hK
  case body =>
    rintro l pre x W _ hlp
    exact absurd hlp (by omega)
  case done =>
    rintro D ys W hD rfl ⟨hN, hB⟩ hK
    have cN := hN.cell
    gi_wp2
    refine ⟨by simp, .inl ⟨_, _, rfl, run_takeDeferred hK, ?_⟩⟩
    exact ⟨_, results_tmp rfl _ _ _, rfl, hB.trans (belowK_b (w := w) (Nat.le_refl _) W D _ _ (by omega) hK rfl rfl)⟩
  case stop =>
    rintro D c pre W _ _ h _
    exact h.elim
set_option maxRecDepth 100000 in
set_option maxHeartbeats 2000000 in
theorem Keys_nil (w : World) : Calls Tryd.prog 17 #[.pointer none] w fun e w' => e = .returned (.slice none 0 0) ∧ Below w.heap.size w w' := by
  refine (callsIn_wide (n := 4)).1 ?_
  refine callsIn_of_wp_marks Tryd.func17 rfl trivial ?_ rfl
  simp only [Tryd.ntmps17, List.size_toArray, List.length_cons, List.length_nil, Nat.reduceAdd, Nat.reduceSub, Array.replicate_succ, Array.replicate_zero, List.push_toArray, List.append_toArray, List.nil_append, List.cons_append]
  gi_wp2_with (refine ⟨trivial, ?_⟩; gi_at_call 29; refine (used_in _ _ _).mono ?_; rintro e w' ⟨rfl, rfl⟩)
  obtain ⟨W0, hW0⟩ : ∃ W0, ((w.alloc (.cells #[.slice none 0 0] 41)).alloc (.cells #[.pointer none] 26)) = W0 := ⟨_, rfl⟩
  rw [hW0]
  have hsz : W0.heap.size = w.heap.size + 1 + 1 := by rw [← hW0]; simp
  have hB0 : Below w.heap.size w W0 := by rw [← hW0]; exact ((Below.refl _ w).alloc (Nat.le_refl _) _).alloc (by simp) _
  have bO : Boxed W0 w.heap.size 41 (.slice none 0 0) := by rw [← hW0]; exact (Boxed.new w 41 (.slice none 0 0)).alloc _
  have bN : Has W0 (w.heap.size + 1) 26 [.pointer none] := by
    have := Has.made (w.alloc (.cells #[.slice none 0 0] 41)) 26 [.pointer none]
    rw [World.size_alloc] at this
    rw [← hW0]
    exact this
  have hI : OwnFrom W0.heap.size (KeysI w) := keysI_own w W0 (by omega)
  have hI0 : KeysI w [] W0 := ⟨⟨_, bO, World.ownsRow_nil _ _ _ _, by simp⟩, hB0, by omega⟩
  have hseq := none_stops (4 - 1) (by omega) (w.heap.size + 1) W0 bN
  clear hW0
  refine wpIn_rangeFunc_ownG (F := Fence.wide) (n := 4) (w := W0) rfl (by omega) (gf := 38) (lb := #[.pointer (some ⟨w.heap.size + 1, 0, none⟩)]) rfl trivial (enters_of Tryd.func38 (by kernel_rfl) rfl)
    hseq (fun h k => h.trans k) (fun W l o o' _ hl ho _ => KeepS.putObj o' hl ho) (Below.refl _ _) (fun _ => rfl)
    (KeysI w) (fun _ _ _ => False) hI (fun _ _ _ _ _ hs _ _ => hs) hI0
    (fun x => { tmps := #[.pointer none, undef, .slice none 0 0, .pointer (some ⟨w.heap.size, 0, none⟩), .string x.k, .pointer none, .func (.func 38) #[] #[.pointer (some ⟨w.heap.size + 1, 0, none⟩)], .string x.k, undef, undef, undef, undef, undef, undef, undef], defers := [] }) ?assign ?body ?done ?stop
  case assign =>
    intro l x W K hK
    gi_wp2
    simpa using hK
  case body =>
    rintro l pre x W _ hlp
    exact absurd hlp (by omega)
  case done =>
    rintro D ys W hD rfl ⟨⟨v, hv, hrow, hnil⟩, hB, h5⟩ hK
    obtain rfl := hnil.2 rfl
    have cN := hv.cell
    have HK := Lib.hid hK
    have HB := Lib.hid hB
    clear hrow hK hB hv hnil
    gi_wp2_with (refine ⟨trivial, ?_⟩; gi_at_call 30; refine (callsIn_wide.2 (Sort_nil _)).mono ?_; rintro e w' ⟨rfl, rfl⟩)
    refine ⟨by simp, .inl ⟨_, _, rfl, run_takeDeferred HK.out, ?_⟩⟩
    exact ⟨_, results_tmp rfl _ _ _, rfl, HB.out.trans (belowK_b (w := w) (Nat.le_refl _) W D _ _ (by omega) HK.out rfl rfl)⟩
  case stop =>
    rintro D c pre W _ _ h _
    exact h.elim
end Go.Proofs.YtgcdminjpdbchaaDoor
