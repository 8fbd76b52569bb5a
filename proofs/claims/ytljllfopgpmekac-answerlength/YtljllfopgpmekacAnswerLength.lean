/- For any answer the law AnswerLength returns true: its bytes are 26, 18 more for each thing that is told, and for each name two and its key's; the first ones are its Kind and its Code (of more than 40 things or keys of more than 300 bytes only the examples are asked). No condition. -/
import Derived.Test.YtljllfopgpmekacRows
import Derived.Test.YtljllfopgpmekacSa5
import Derived.Test.YtljllfopgpmekacAnOpen
namespace Go.Proofs.Ytljllfopgpmekac.answerLength
open Go.ChangeShapes Go.WideShapes Go.ChangeAt Go.RowKit
open Go.ChangeMaps (open_string shut_string)
set_option linter.unusedVariables false

/-- How many bytes the first k names want, and all else. -/
def lenK (a : An) (k : Nat) : Nat := 26 + 18 * a.told.length + ((a.names.take k).map fun n => 2 + n.key.size).sum
theorem lenK_next (a : An) (k : Nat) (h : k < a.names.length) : lenK a (k + 1) = lenK a k + 2 + a.names[k].key.size := by
  unfold lenK
  rw [List.take_succ_eq_append_getElem h, List.map_append, List.sum_append]
  simp; omega
theorem lenK_all (a : An) (h : AnOk a) : (anB a).length = lenK a a.names.length := by
  unfold lenK
  rw [List.take_of_length_le (Nat.le_refl _)]
  exact anB_len h
theorem sum_le (l : List Nm) (h : ∀ n ∈ l, n.key.size ≤ 300) : (l.map fun n => 2 + n.key.size).sum ≤ 302 * l.length := by
  induction l with
  | nil => simp
  | cons x l ih =>
    have h1 := h x (by simp)
    have h2 := ih (fun n hn => h n (by simp [hn]))
    simp only [List.map_cons, List.sum_cons, List.length_cons]
    omega
theorem lenK_le (a : An) (k : Nat) (h : ShortA a) : lenK a k ≤ 20000 := by
  have := sum_le (a.names.take k) (fun n hn => h.2.2 n (List.mem_of_mem_take hn))
  have h2 := h.1
  have h3 := h.2.1
  have h4 : (a.names.take k).length ≤ 40 := by simp; omega
  unfold lenK; omega
theorem one_byte {n : Int} (h : Fit n 1) : nB n 1 = [UInt8.ofNat n.toNat] := by
  have e : (256 : Nat) ^ 1 = 256 := by decide
  rw [nB_fit h (by decide)]
  unfold Fit at h
  simp [wideL, byteN, List.range_succ]
  rw [show n % 256 = n by omega]
theorem byte_back {n : Int} (h : Fit n 1) : ((UInt8.ofNat n.toNat).toNat : Int) = n := by
  have e : (256 : Nat) ^ 1 = 256 := by decide
  unfold Fit at h
  simp; omega
theorem bytes3 {a : An} (h : AnOk a) {S : ByteArray} (hS : S.data.toList = anB a) (h26 : 26 ≤ S.size) : (S[0].toNat : Int) = a.kind ∧ (S[1].toNat : Int) = a.code ∧ (S[24].toNat : Int) = (a.told.length : Int) := by
  have g : ∀ (i : Nat) (hi : i < S.size) (u : UInt8), (anB a)[i]? = some u → S[i] = u := by
    intro i hi u hu
    rw [← hS] at hu
    have : S.data.toList[i]? = some S[i] := by rw [List.getElem?_eq_getElem (by simpa using hi)]; rfl
    rw [this] at hu
    exact Option.some.inj hu
  have e0 : (anB a)[0]? = some (UInt8.ofNat a.kind.toNat) := by unfold anB; rw [one_byte h.kind]; rfl
  have e1 : (anB a)[1]? = some (UInt8.ofNat a.code.toNat) := by unfold anB; rw [one_byte h.kind, one_byte h.code]; rfl
  have e2 : (anB a)[24]? = some (UInt8.ofNat (a.told.length : Int).toNat) := by
    rw [← anN_all]
    unfold anN anT
    simp only [List.append_assoc]
    rw [List.getElem?_append_right (by rw [anH_len]; exact Nat.le_refl _), anH_len, one_byte (fit_len h.told)]
    rfl
  refine ⟨?_, ?_, ?_⟩
  · rw [g 0 (by omega) _ e0]; exact byte_back h.kind
  · rw [g 1 (by omega) _ e1]; exact byte_back h.code
  · rw [g 24 (by omega) _ e2]; exact byte_back (fit_len h.told)
theorem idxS (S : ByteArray) (i : Nat) (h : i < S.size) (u : World) : (Instr.index 9 (.string S) (.int .i64 (i : Int))).run Try.prog u = .ok (.int .u8 (S[i].toNat : Int)) u := by
  go_simp
theorem three {a : An} {A N : Option Addr} {ca cn : Nat} {w w1 : World} (h : BW (anC a A ca N cn) w w1) : w1.cell? ⟨w.heap.size, 0, none⟩ = some (.int .i64 a.kind) ∧ w1.cell? ⟨w.heap.size, 1, none⟩ = some (.int .i64 a.code) ∧ w1.cell? ⟨w.heap.size, 2, none⟩ = some (.slice A a.told.length ca) := ⟨h.x.cell 0, h.x.cell 1, h.x.cell 2⟩
set_option maxRecDepth 100000 in
set_option maxHeartbeats 4000000 in
theorem walk (a : An) (v : Value) {w : World} (ha : IsAn w v a) :
    Calls Try.prog 5 #[v] w fun e w' => e = .returned (.bool true) ∧ Below w.heap.size w w' := by
  obtain ⟨A, ca, N, cn, rfl, ha⟩ := ha
  have HA := Lib.hid ha
  have IA := Lib.hid (fun u (hu : Below w.heap.size w u) => ha.old hu)
  have X0 := Lib.hid (BW.made (anC a A ca N cn) w)
  unfold anC at X0 ⊢
  clear ha
  go_enter Try.func5, Try.ntmps5
  go_wp2_with fail
  refine (Short_any a _ _ (IA.out _ X0.out.be)).mono ?_
  rintro e w1 ⟨⟨q, rfl, hq⟩, hb⟩
  have X1 := Lib.hid (X0.out.next hb)
  clear hb
  cases q with
  | false =>
    clear hq
    go_wp2_with fail
    refine (live_any _).mono ?_
    rintro e w2 ⟨rfl, hb⟩
    have X2 := Lib.hid (X1.out.next hb)
    clear hb
    go_wp2
    go_ret
    exact ⟨rfl, X2.out.be⟩
  | true =>
    have SH := Lib.hid (hq.1 rfl)
    have t40 : a.told.length ≤ 40 := SH.out.1
    have n40 : a.names.length ≤ 40 := SH.out.2.1
    clear hq
    obtain ⟨x0, x1, x2, x3, x4, x5, x6, x7, x8, x9, x10⟩ := X1.out.cells
    obtain ⟨m0, hm0⟩ : ∃ m0 : Nat, m0 = lenK a 0 := ⟨_, rfl⟩
    have M0 := Lib.hid hm0
    have M1 := Lib.hid (show (26 : Int) + 18 * a.told.length = (m0 : Int) by rw [hm0]; simp [lenK])
    clear hm0
    go_wp2_with fail
    rw [show (26 : Int) + 18 * (a.told.length : Int) = (m0 : Int) from M1.out]
    go_loopw [3, 4] (fun n i wr => ∃ (k m : Nat), k ≤ a.names.length ∧ i = .int .i64 k ∧ n = .int .i64 m ∧ m = lenK a k ∧ BW (anC a A ca N cn) w wr) (fun _ i _ => a.names.length - (intOf i).toNat)
    case atStart => exact ⟨0, m0, Nat.zero_le _, rfl, rfl, M0.out, X1.out⟩
    case round =>
      obtain ⟨k, m, hk, rfl, rfl, hm, hx⟩ := hrel
      have XR := Lib.hid hx
      have HM := Lib.hid hm
      have hm2 : m ≤ 20000 := by rw [hm]; exact lenK_le a k SH.out
      clear hx hm x0 x1 x2 x3 x4 x5 x6 x7 x8 x9 x10
      obtain ⟨x0, x1, x2, x3, x4, x5, x6, x7, x8, x9, x10⟩ := BW.cells (a := a) (A := A) (N := N) (ca := ca) (cn := cn) XR.out
      by_cases hlt : k < a.names.length
      · obtain ⟨bb, off, e1, hb1, hy⟩ := ((HA.out.below XR.out.be).ns).get hlt
        obtain ⟨x, ex⟩ : ∃ x, x = a.names[k] := ⟨_, rfl⟩
        have KS := SH.out.2.2 a.names[k] (List.getElem_mem _)
        have NX := Lib.hid (lenK_next a k hlt)
        rw [← ex] at hy KS NX
        subst e1
        have u1 := hy 1 _ rfl
        clear hy ex
        go_wp2_with fail
        go_roundw
        case rel => exact ⟨k + 1, m + 2 + x.key.size, by omega, by go_num, by go_num, by rw [NX.out, HM.out], XR.out⟩
        case measure => simp [intOf]; omega
      · obtain rfl : k = a.names.length := by omega
        go_wp2_with fail
        refine (Encode_l a _ _ (IA.out _ XR.out.be)).mono ?_
        rintro e w3 ⟨S, c, rfl, hS, hc, hb⟩
        have X3 := Lib.hid (XR.out.next hb)
        clear hb x0 x1 x2 x3 x4 x5 x6 x7 x8 x9 x10
        by_cases ok : AnOk a
        · have hl := lenK_all a ok
          rw [← HM.out] at hl
          by_cases h5 : (anB a).length ≤ 512
          · obtain rfl : c = 0 := hc.trans (enc_yes ok h5).2
            rw [(enc_yes ok h5).1] at hS
            have hsz : S.size = m := by rw [bA_sub hS, bA_size, hl]
            have h26 : 26 ≤ m := by rw [HM.out]; unfold lenK; omega
            have h26' : 26 ≤ S.size := by rw [hsz]; exact h26
            obtain ⟨b0, b1, b2⟩ := bytes3 ok hS h26'
            have hm5 : m ≤ 512 := by omega
            clear hc hS hl h5 ok
            go_wp2_with fail
            have dm : decide ((m : Int) ≤ 512) = true := by simp; omega
            have r0 : ∀ u : World, (Instr.index 9 (.string S) (.int .i64 0)).run Try.prog u = .ok (.int .u8 a.kind) u := fun u => by rw [← b0]; exact idxS S 0 (by omega) u
            have r1 : ∀ u : World, (Instr.index 9 (.string S) (.int .i64 1)).run Try.prog u = .ok (.int .u8 a.code) u := fun u => by rw [← b1]; exact idxS S 1 (by omega) u
            have r2 : ∀ u : World, (Instr.index 9 (.string S) (.int .i64 24)).run Try.prog u = .ok (.int .u8 (a.told.length : Int)) u := fun u => by rw [← b2]; exact idxS S 24 (by omega) u
            have wr8 : ∀ x : Nat, x < 256 → IntKind.i64.wrap (x : Int) = (x : Int) := fun x hx => by simp [IntKind.wrap, IntKind.signed, IntKind.bits]; omega
            have f1 : (IntKind.i64.wrap a.kind == a.kind) = true := by rw [← b0, wr8 _ (UInt8.toNat_lt _)]; simp
            have f2 : (IntKind.i64.wrap a.code == a.code) = true := by rw [← b1, wr8 _ (UInt8.toNat_lt _)]; simp
            have f3 : (IntKind.i64.wrap (a.told.length : Int) == (a.told.length : Int)) = true := by rw [wr8 _ (by omega)]; simp
            clear wr8
            have g0 : 0 < m := by omega
            have g1 : 1 < m := by omega
            have g2 : 24 < m := by omega
            clear b0 b1 b2
            go_region_held3 (fun w' => w'.cell? ⟨w.heap.size, 0, none⟩ = some (.int .i64 a.kind) ∧ w'.cell? ⟨w.heap.size, 1, none⟩ = some (.int .i64 a.code) ∧ w'.cell? ⟨w.heap.size, 2, none⟩ = some (.slice A a.told.length ca)) (first | (with_reducible exact three X3.out) | (with_reducible exact three X3.out.drew) | (with_reducible exact three X4.out) | go_keep) (first | (go_at_call 7; (with_reducible refine (live_any _).mono ?_); rintro e w4 ⟨rfl, hb⟩; have X4 := Lib.hid (X3.out.drew.next hb); clear hb))
            all_goals
              go_wp2
              go_ret
              exact ⟨rfl, X4.out.be⟩
          · obtain rfl : c = 8 := hc.trans (enc_big ok h5).2
            have hm5 : 512 < m := by omega
            clear hc hS hl h5 ok
            go_wp2_with fail
            refine (live_any _).mono ?_
            rintro e w4 ⟨rfl, hb⟩
            have X4 := Lib.hid (X3.out.next hb)
            clear hb
            go_wp2
            go_ret
            exact ⟨rfl, X4.out.be⟩
        · obtain rfl : c = 1 := hc.trans (enc_bad ok).2
          rw [(enc_bad ok).1] at hS
          obtain rfl := bA_sub hS
          clear hc hS ok
          go_wp2_with fail
          refine (live_any _).mono ?_
          rintro e w4 ⟨rfl, hb⟩
          have X4 := Lib.hid (X3.out.next hb)
          clear hb
          go_wp2
          go_ret
          exact ⟨rfl, X4.out.be⟩

theorem own : ownKnob Try.prog.godebug = none := by kernel_rfl
theorem laidOut : laidOutB Try.prog = true := by kernel_rfl
theorem contract (H : Type) (enc : TypeId × Value → H) (W : World) (base : Nat) (args : Array Value) (ds gs : List (DataW H)) (before : List MemPlace)
    (hval : ∀ (j : Nat) t v, Try.f5.params[j]? = some t → args[j]? = some v → Value.okWide Try.prog W .any base t v)
    (hW : DataW.Whole enc Try.prog Try.f5.params.toList Rows.answerLengthSpec.vars false W args.toList ds gs before) :
    Calls Try.prog 5 args W fun e W' => ∃ v, e = .returned v ∧ Rows.answerLengthSpec.post enc Try.prog Try.f5 false true false false W args v W' := by
  have hW' := hW
  obtain ⟨p, q, hA0, hV, rfl, hfz, hnd⟩ := hW
  have hA : DataW.TrodAll enc Try.prog W 0 (fun _ => true) true Try.f5.params.toList args.toList ds p := hA0
  rw [Try.params5] at hA hval
  obtain ⟨v0, vs0, d0, ds0, p0, q0, hargs, rfl, rfl, h0, r0⟩ := trodAll_cons hA
  obtain ⟨rfl, rfl, rfl⟩ := trodAll_nil r0
  obtain rfl : args = #[v0] := by cases args; simp_all
  obtain ⟨rfl, rfl⟩ := trodVars_none hV
  have k0 := h0
  have lt0 : ∀ x ∈ p0, x.block < W.heap.size := by obtain ⟨m, hm⟩ := k0; exact DataW.trod_lt m _ _ _ hm
  obtain ⟨a0, w0⟩ := open_an (hval 0 28 v0 rfl rfl) h0
  clear hA0
  refine (walk a0 v0 w0).mono fun e W' ⟨he, bel⟩ => ?_
  subst he
  exact ⟨_, rfl, _, _, _, [], _, [], hW', trodAll_mk1 (shut_bool Try.underlying4 _), (trodAll_cons_mk (Below.trod laidOut (by kernel_rfl) (of_decide_eq_true (by kernel_rfl)) k0 bel lt0) trodAll_mk0), rfl, bel.frame _, fun h => by cases h⟩

set_option maxRecDepth 100000 in
theorem lifted (os : Os) (started : os.Started) (H : Type) (enc : TypeId × Value → H) :
    ReturnsInHanded {} Try.checked os 5 .any (Rows.answerLengthSpec.pre6 enc Try.prog Try.f5 Rows.answerLengthRow.domain false) (Rows.answerLengthSpec.post enc Try.prog Try.f5 false true false false) := by
  refine returnsInHanded_of_change (C := Try.checked) own started (by kernel_rfl) Try.func5
    (ChangeSpec.witness6 (enc := enc) (C := Try.checked) false ⟨#[], #[.agg #[.int .i64 0, .int .i64 0, .slice none 0 0, .int .i64 0, .int .i64 0, .int .i64 0, .int .i64 0, .int .i64 0, .int .i64 0, .int .i64 0, .slice none 0 0]], []⟩ 8 (by kernel_rfl) (by kernel_rfl) (by kernel_rfl) (by kernel_rfl)) ?_
  intro W base args ds gs before hval hW _ _
  exact contract H enc W base args ds gs before hval hW

theorem over : Rows.answerLengthRow.holds Try.pinned (OpenSpec.ofChange Rows.answerLengthSpec) :=
  OpenClaim.holds_of_wide 5 Try.f5 rfl rfl rfl rfl rfl rfl rfl ⟨rfl, rfl, rfl, rfl, rfl⟩ rfl rfl rfl rfl rfl (by kernel_rfl) Try.func5 (by kernel_rfl)
    (of_decide_eq_true (by kernel_rfl)) (by unfold Func.isWrapper; first | (rw [if_pos (by decide +kernel)]; kernel_rfl) | (rw [if_neg (by decide +kernel)]; exact ⟨rfl, rfl⟩))
    (fun os started H enc _ => lifted os started H enc)
end Go.Proofs.Ytljllfopgpmekac.answerLength
namespace Go.Proofs.Ytljllfopgpmekac
theorem answerLength_proved : Rows.AnswerLengthSaid := answerLength.over
end Go.Proofs.Ytljllfopgpmekac

