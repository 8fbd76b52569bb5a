/- For all lists of calls and all ids the law RecentTouches returns true: who is touched is the last one, all others stay in their order; who is dropped is not there, and all others stay (of at most 60 calls and ids not below 0, else only the document's examples are asked). -/
import Derived.Test.YtjkejlnelkckgaaRcX
import Derived.Test.YtjkejlnelkckgaaRows
namespace Go.Proofs.Ytjkejlnelkckgaa.recentTouches
open Go.ChangeShapes Go.WideShapes Go.ChangeAt Go.RowKit
set_option linter.unusedVariables false

/-- 'append(s, x...)' where the operation is guarded, and wanted. -/
theorem wpList_spreadG (u : World) (B g0 n0 c0 : Nat) (xs0 : List Nat) (hn0 : xs0.length = n0) {ops : Array Oper} {rest : List Oper} {o : Oper} {a : Act} {Q : Exit → Act → World → Prop} (hgd : Region.wanted o (yielded ops a.tmps) = true) (s x : Operand)
    (ho : o.op = .call { callee := .builtin .append, args := #[s, x], argTypes := #[26, 26] }) (A : Option Addr) (m c : Nat) (l : List Nat) (hl : l.length = m)
    (hs : a.eval s = .slice (some ⟨g0, 0, none⟩) n0 c0) (hx : a.eval x = .slice A m c) (hO : u.ownsRow B 3 1 (.slice (some ⟨g0, 0, none⟩) n0 c0) n0 (idsV xs0)) (hI : NatsAt u A l) (hm : n0 + m ≤ 1000) (hB : B ≤ u.heap.size)
    (h : ∀ g cap w', w'.ownsRow B 3 1 (.slice (some ⟨g, 0, none⟩) (n0 + m) cap) (n0 + m) (idsV (xs0 ++ l)) → Kept (fun b => b = g0) u w' → (g = g0 ∨ u.heap.size ≤ g) → wpList Try.prog ops Q rest (a.put o.dst (.slice (some ⟨g, 0, none⟩) (n0 + m) cap)) w') :
    wpList Try.prog ops Q (o :: rest) a u := by
  refine wpList_step fun K hK => ?_
  rw [if_pos hgd]
  obtain ⟨o1, o2, o3, o4, o5, o6⟩ := o
  have h1 := step_spreadN (ops := ops) (o := ⟨o1, o2, o3, o4, o5, none⟩) (a := a) (E := True) (K := K) (Q := Q) u B g0 n0 c0 xs0 hn0 rfl s x ho A m c l hl hs hx hO hI hm hB (fun g cap w' q1 q2 q3 => hK _ _ (h g cap w' q1 q2 q3))
  rw [if_pos (by simp [Region.wanted])] at h1
  exact h1
theorem wpList_row1G (u : World) (B g m cap hb : Nat) {ops : Array Oper} {rest : List Oper} {o : Oper} {a : Act} {Q : Exit → Act → World → Prop} (hgd : Region.wanted o (yielded ops a.tmps) = true) (s x : Operand)
    (ho : o.op = .call { callee := .builtin .append, args := #[s, x], argTypes := #[26, 26] }) (l : List Nat) (y : Nat)
    (hs : a.eval s = .slice (some ⟨g, 0, none⟩) m cap) (hx : a.eval x = .slice (some ⟨hb, 0, none⟩) 1 1) (hO : u.ownsRow B 3 1 (.slice (some ⟨g, 0, none⟩) m cap) m (idsV l)) (hc : u.cell? ⟨hb, 0, none⟩ = some (.int .i64 (y : Int))) (hm : m ≤ 1000) (hB : B ≤ u.heap.size)
    (h : ∀ g' cap' w', w'.ownsRow B 3 1 (.slice (some ⟨g', 0, none⟩) (m + 1) cap') (m + 1) (idsV (l ++ [y])) → Kept (fun b => b = g) u w' → (g' = g ∨ u.heap.size ≤ g') → g' < w'.heap.size → wpList Try.prog ops Q rest (a.put o.dst (.slice (some ⟨g', 0, none⟩) (m + 1) cap')) w') :
    wpList Try.prog ops Q (o :: rest) a u := by
  refine wpList_step fun K hK => ?_
  rw [if_pos hgd]
  obtain ⟨o1, o2, o3, o4, o5, o6⟩ := o
  have h1 := step_row1 (ops := ops) (o := ⟨o1, o2, o3, o4, o5, none⟩) (a := a) (E := True) (K := K) (Q := Q) u B g m cap hb rfl s x ho l y hs hx hO hc hm hB (fun g cap w' q1 q2 q3 q4 => hK _ _ (h g cap w' q1 q2 q3 q4))
  rw [if_pos (by simp [Region.wanted])] at h1
  exact h1
theorem flt_twice (l : List Nat) (x : Nat) : flt (flt l x ++ [x]) x = flt l x := by simp [flt]
/-- A list that was told: whose memory lies behind B. -/
structure Tl (w : World) (B : Nat) (A : Option Addr) (cap : Nat) (l : List Nat) : Prop where
  at_ : IntsAt w A cap (cI l)
  ge : ∀ a, A = some a → B ≤ a.block ∧ a.block < w.heap.size
theorem Tl.kept {F : Nat → Prop} {w w' : World} {B cap : Nat} {A : Option Addr} {l : List Nat} (h : Tl w B A cap l) (hk : Kept F w w') (hF : ∀ b, B ≤ b → b < w.heap.size → ¬ F b) : Tl w' B A cap l :=
  ⟨h.at_.kept hk (fun a e => hF _ (h.ge a e).1 (h.ge a e).2), fun a e => ⟨(h.ge a e).1, Nat.lt_of_lt_of_le (h.ge a e).2 hk.size⟩⟩
theorem Tl.below {w w' : World} {B cap : Nat} {A : Option Addr} {l : List Nat} (h : Tl w B A cap l) (hb : Below w.heap.size w w') : Tl w' B A cap l := h.kept (F := fun _ => False) (Kept.of_below hb) (fun _ _ _ => id)
theorem Own1.tl {B : Nat} {w : World} {v : Value} {l : List Nat} (h : Own1 B 3 w v (idsV l)) : ∃ A cap, v = .slice A l.length cap ∧ Tl w B A cap l := by
  obtain ⟨A, cap, rfl, hI⟩ := h.ints
  exact ⟨A, cap, rfl, hI, fun a e => by subst e; exact ⟨h.ge rfl, h.lt rfl⟩⟩
theorem Tl.elt {w : World} {B cap : Nat} {A : Option Addr} {l : List Nat} (h : Tl w B A cap l) {i x : Nat} (hx : l[i]? = some x) : ∃ g, A = some ⟨g, 0, none⟩ ∧ w.cell? ⟨g, i, none⟩ = some (.int .i64 (x : Int)) ∧ l.length ≤ cap := by
  have hi := (List.getElem?_eq_some_iff.1 hx).1
  obtain ⟨g, e, hc⟩ := h.at_.2 (by rw [cI_len]; omega)
  exact ⟨g, e, hc i x (by rw [cI_at, hx]; rfl), by have := h.at_.1; rwa [cI_len] at this⟩
set_option maxRecDepth 100000 in
set_option maxHeartbeats 4000000 in
theorem main (A : Option Addr) (len cap : Nat) (x : Nat) (hx : x ≤ 9223372036854775807) {W : World} (hops : IsOps W A len cap) (h60 : len ≤ 60) :
    Calls Try.prog 5 #[.slice A len cap, .int .i64 (x : Int)] W fun e w' => e = .returned (.bool true) ∧ Below W.heap.size W w' := by
  have hlc := hops.1
  have HOPS := Lib.hid hops
  have HXX := Lib.hid hx
  have t0 : ¬ (x : Int) < 0 := by omega
  clear hops hx
  go_enter Try.func5, Try.ntmps5
  go_wp2_with fail
  refine (New_T W).mono ?_
  rintro e w1 ⟨bP, bM, rfl, hW, hB, h1, h2⟩
  have HS0 := Lib.hid hW
  have HB0 := Lib.hid hB
  have HBK := Lib.hid (fun w' w'' (h : Below W.heap.size W w') (k : Kept (two bP bM) w' w'') => h.trans (k.below (B := W.heap.size) h.size (fun i hi hf => by rcases hf with e | e <;> omega)))
  clear hW hB h1 h2
  go_wp2_with fail
  go_loopw [6] (fun i wr => ∃ (j : Nat) (l : List Nat), j ≤ len ∧ i = .int .i64 (j : Int) ∧ RC wr bP bM l ∧ l.length ≤ j ∧ Below W.heap.size W wr) (fun i _ => len - (intOf i).toNat)
  case atStart => exact ⟨0, [], Nat.zero_le _, rfl, HS0.out, Nat.le_refl _, HB0.out⟩
  case round =>
    clear HS0 HB0
    obtain ⟨j, l, hj, rfl, hI, hn, hL⟩ := hrel
    have HI := Lib.hid hI
    have HL := Lib.hid hL
    have HN := Lib.hid hn
    clear hI hL hn
    by_cases hlt : j < len
    · obtain ⟨b, off, rfl, hb, hall⟩ := HOPS.out.2.2 (by omega)
      obtain ⟨d, k, ho⟩ := hall j hlt
      clear hall
      have c1 := (HL.out.cell (p := ⟨b, off + j * 2 + 1, none⟩) hb).trans ho.c1
      have hbr : b < wr.heap.size := Nat.lt_of_lt_of_le hb HL.out.size
      have HKK := Lib.hid ho.w1
      clear ho
      by_cases k0 : 0 ≤ k
      · obtain ⟨y, rfl⟩ := Int.eq_ofNat_of_zero_le k0
        have HC := Lib.hid (Touch_T bP bM l wr HI.out y (by have := HKK.out; unfold I64 at this; omega) (by have := HN.out; omega))
        clear k0
        go_wp2_with fail
        refine HC.out.mono ?_
        rintro e w2 ⟨rfl, hW2, hK2⟩
        have HW2 := Lib.hid hW2
        have HL2 := Lib.hid (HBK.out _ _ HL.out hK2)
        have HTT := Lib.hid (show (flt l y ++ [y]).length ≤ j + 1 by have := flt_le l y; have := HN.out; simp; omega)
        clear hW2 hK2 HC
        go_wp2
        go_roundw
        case rel => exact ⟨j + 1, _, by omega, by go_num, HW2.out, HTT.out, HL2.out⟩
        case measure => simp [intOf]; omega
      · have HC := Lib.hid (Touch_no bP bM l wr HI.out k (by omega))
        have HTT := Lib.hid (show l.length ≤ j + 1 by have := HN.out; omega)
        clear k0
        go_wp2_with fail
        refine HC.out.mono ?_
        rintro e w2 ⟨rfl, rfl⟩
        clear HC
        go_wp2
        go_roundw
        case rel => exact ⟨j + 1, _, by omega, by go_num, HI.out, HTT.out, HL.out⟩
        case measure => simp [intOf]; omega
    · have hl60 : l.length ≤ 60 := by have := HN.out; omega
      have HO := Lib.hid (Order_T bP bM l wr HI.out (by omega))
      have HLT := Lib.hid HI.out.lt
      go_wp2_with fail
      refine HO.out.mono ?_
      rintro e w2 ⟨v, rfl, hO, hb2⟩
      obtain ⟨A2, c2, rfl, hT2⟩ := Own1.tl hO
      have HT2 := Lib.hid hT2
      have HI2 := Lib.hid (HI.out.below hb2)
      have HL2 := Lib.hid (HL.out.trans (hb2.mono HL.out.size))
      have HZ2 := Lib.hid hb2.size
      have HWS := Lib.hid (Nat.le_trans HL.out.size hb2.size)
      clear hO hb2 hT2 HO HI
      obtain ⟨B1, hB1⟩ : ∃ B1, wr.heap.size = B1 := ⟨_, rfl⟩
      rw [hB1] at HT2 HLT HZ2
      clear hB1
      obtain ⟨n, hn⟩ : ∃ n, l.length = n := ⟨_, rfl⟩
      have HLN := Lib.hid hn
      rw [hn] at hl60 ⊢
      clear hn
      go_wp2_with fail
      go_loopw [8, 9] (fun v i wx => ∃ q : Nat, q ≤ n ∧ i = .int .i64 (q : Int) ∧ Own1 w2.heap.size 3 wx v (idsV (flt (l.take q) x)) ∧ RC wx bP bM l ∧ Tl wx B1 A2 c2 l ∧ (∀ a, A2 = some a → a.block < w2.heap.size) ∧ Below W.heap.size W wx ∧ w2.heap.size ≤ wx.heap.size) (fun _ i _ => n - (intOf i).toNat)
      case atStart => exact ⟨0, by omega, rfl, Own1.nil _ _ _, HI2.out, HT2.out, fun a e => (HT2.out.ge a e).2, HL2.out, Nat.le_refl _⟩
      case round =>
        obtain ⟨q, hq, rfl, hO, hI, hT, hA, hL3, hs3⟩ := hrel
        have HO := Lib.hid hO
        have HI3 := Lib.hid hI
        have HT3 := Lib.hid hT
        have HA3 := Lib.hid hA
        have HL3 := Lib.hid hL3
        have HS3 := Lib.hid hs3
        by_cases hql : q < n
        · obtain ⟨y, hy⟩ : ∃ y, l[q]? = some y := ⟨_, List.getElem?_eq_getElem (by rw [HLN.out]; exact hql)⟩
          obtain ⟨g, rfl, d1, hcap⟩ := hT.elt hy
          rw [HLN.out] at hcap
          have HY := Lib.hid hy
          have hfl := flt_len l q x
          have hvl := hO.sl
          rw [idsV_len] at hvl
          obtain ⟨m, hm⟩ : ∃ m, (flt (l.take q) x).length = m := ⟨_, rfl⟩
          have HM := Lib.hid hm
          rw [hm] at hvl hfl
          obtain ⟨Av, capv, rfl⟩ := hvl
          clear hO hI hT hA hL3 hs3 hy hm HT2 HI2 HL2
          by_cases e : y = x
          · subst e
            have HF := Lib.hid (flt_no HY.out)
            go_wp2
            go_roundw
            case rel => exact ⟨q + 1, by omega, by go_num, by rw [HF.out]; exact HO.out, HI3.out, HT3.out, HA3.out, HL3.out, HS3.out⟩
            case measure => simp [intOf]; omega
          · have HF := Lib.hid (flt_yes HY.out e)
            have t1 : ((y : Int) != (x : Int)) = true := by simp; omega
            have t2 : (y != x) = true := by simp [e]
            have HIL := Lib.hid (show (idsV (flt (l.take q) x)).length = m by rw [idsV_len]; exact HM.out)
            clear e
            go_wp2_with (at_builtin; refine wpList_append_own1 wr wr.heap.size rfl rfl _ _ 26 rfl 3 (.int .i64 0) 8 Try.underlying26 Try.infoInt rfl (by decide) _ (.int .i64 (y : Int)) (idsV (flt (l.take q) x)) m HIL.out rfl rfl rfl HO.out HS3.out (by omega) ?_)
            intro g3 cap3 w3 ho hk hg hgl
            have hown : ∀ b, (Value.slice Av m capv).ownBlock = some b → w2.heap.size ≤ b := fun b hb => HO.out.ge hb
            have hlt2 := HLT.out
            have hz2 := HZ2.out
            have HO4 := Lib.hid (show Own1 w2.heap.size 3 w3 (.slice (some ⟨g3, 0, none⟩) (m + 1) cap3) (idsV (flt (l.take (q + 1)) x)) from by
              rw [HF.out]
              have e : idsV (flt (l.take q) x ++ [y]) = idsV (flt (l.take q) x) ++ [.int .i64 (y : Int)] := by simp [idsV]
              rw [e]; exact ho)
            have HI4 := Lib.hid (HI3.out.kept hk (fun e => by have := hown _ e; omega) (fun e => by have := hown _ e; omega))
            have HT4 := Lib.hid (show Tl w3 B1 (some ⟨g, 0, none⟩) c2 l from ⟨HT3.out.at_.kept hk (fun a e f => by have := hown _ f; have := HA3.out a e; omega), fun a e => ⟨(HT3.out.ge a e).1, Nat.lt_of_lt_of_le (HT3.out.ge a e).2 hk.size⟩⟩)
            have HL4 := Lib.hid (HL3.out.trans (hk.below HL3.out.size (fun b hb e => by have := hown _ e; have := HWS.out; omega)))
            have HS4 := Lib.hid (Nat.le_trans HS3.out hk.size)
            clear ho hk hg hgl hown hlt2 hz2
            go_wp2
            go_roundw
            case rel => exact ⟨q + 1, by omega, by go_num, HO4.out, HI4.out, HT4.out, HA3.out, HL4.out, HS4.out⟩
            case measure => simp [intOf]; omega
        · have hqn : q = n := by omega
          have hO' : Own1 w2.heap.size 3 wr u8 (idsV (flt l x)) := by rw [hqn, ← HLN.out, List.take_length] at hO; exact hO
          have hnd := hI.nd
          have hfl := flt_le l x
          rw [HLN.out] at hfl
          obtain ⟨Av, capv, rfl, hTV⟩ := Own1.tl hO'
          obtain ⟨m, hm⟩ : ∃ m, (flt l x).length = m := ⟨_, rfl⟩
          have HM := Lib.hid hm
          rw [hm] at hfl ⊢
          have HV3 := Lib.hid hTV
          clear hO hO' hI hT hA hL3 hs3 hm HT2 HI2 HL2 hnd hTV HO
          -- Touch
          have HC := Lib.hid (Touch_T bP bM l wr HI3.out x HXX.out (by rw [HLN.out]; omega))
          go_wp2_with fail
          refine HC.out.mono ?_
          rintro e w4 ⟨rfl, hW, hK⟩
          have HW4 := Lib.hid hW
          have HL4 := Lib.hid (HBK.out _ _ HL3.out hK)
          have HV4 := Lib.hid (HV3.out.kept hK (fun b h1 h2 h3 => by have := HLT.out; have := HZ2.out; rcases h3 with e | e <;> omega))
          have hs4 := Nat.le_trans HS3.out hK.size
          clear hW hK HC
          have hlen4 : (flt l x ++ [x]).length = m + 1 := by simp [HM.out]
          have HO4 := Lib.hid (Order_T bP bM _ w4 HW4.out (by rw [hlen4]; omega))
          go_wp2_with fail
          refine HO4.out.mono ?_
          rintro e w5 ⟨v5, rfl, hO5, hb5⟩
          obtain ⟨A5, c5, rfl, hT5⟩ := Own1.tl hO5
          rw [hlen4]
          have HT5 := Lib.hid hT5
          have HW5 := Lib.hid (HW4.out.below hb5)
          have HL5 := Lib.hid (HL4.out.trans (hb5.mono HL4.out.size))
          have HV5 := Lib.hid (HV4.out.below hb5)
          have hs5 := Nat.le_trans hs4 hb5.size
          clear hO5 hb5 hT5 HO4
          have HC := Lib.hid (Drop_in bP bM _ w5 HW5.out x (by simp) (by rw [hlen4]; omega))
          rw [flt_twice] at HC
          go_wp2_with fail
          refine HC.out.mono ?_
          rintro e w6 ⟨rfl, hW, hK⟩
          have HW6 := Lib.hid hW
          have HL6 := Lib.hid (HBK.out _ _ HL5.out hK)
          have HV6 := Lib.hid (HV5.out.kept hK (fun b h1 h2 h3 => by have := HLT.out; have := HZ2.out; rcases h3 with e | e <;> omega))
          have HT6 := Lib.hid (HT5.out.kept hK (fun b h1 h2 h3 => by have := HLT.out; have := HZ2.out; rcases h3 with e | e <;> omega))
          have hs6 := Nat.le_trans hs5 hK.size
          clear hW hK HC
          have HO6 := Lib.hid (Order_T bP bM _ w6 HW6.out (by rw [HM.out]; omega))
          go_wp2_with fail
          refine HO6.out.mono ?_
          rintro e w7 ⟨v7, rfl, hO7, hb7⟩
          obtain ⟨A7, c7, rfl, hT7⟩ := Own1.tl hO7
          rw [HM.out]
          have HT7 := Lib.hid hT7
          have HL7 := Lib.hid (HL6.out.trans (hb7.mono HL6.out.size))
          have HV7 := Lib.hid (HV6.out.below hb7)
          have HN7 := Lib.hid (HT6.out.below hb7)
          clear hO7 hb7 hT7 HO6
          -- the lists compared
          have H0 := Lib.hid (show (w7.alloc (.cells #[] 3)).ownsRow w7.heap.size 3 1 (.slice (some ⟨w7.heap.size, 0, none⟩) 0 0) 0 (idsV []) from Has.owns (rest := []) (Has.made w7 3 []) rfl rfl (by decide) (Nat.le_refl _))
          have B0 := Lib.hid (show Below w7.heap.size w7 (w7.alloc (.cells #[] 3)) from box_below _)
          have HN0 := Lib.hid (show NatsAt (w7.alloc (.cells #[] 3)) Av (flt l x) from NatsAt.of_ints (HV7.out.below B0.out).at_)
          go_wp2_with (at_builtin; refine wpList_spreadG (w7.alloc (.cells #[] 3)) w7.heap.size w7.heap.size 0 0 [] rfl rfl _ _ rfl Av m capv (flt l x) HM.out rfl rfl H0.out HN0.out (by omega) B0.out.size ?_)
          intro g8 cap8 w8 hO8 hK8 hg8
          have hb8 : Below w7.heap.size w7 w8 := B0.out.trans (hK8.below B0.out.size (fun k hk e => by omega))
          have hO8' : w8.ownsRow w7.heap.size 3 1 (.slice (some ⟨g8, 0, none⟩) m cap8) m (idsV (flt l x)) := by simpa using hO8
          have HO8 := Lib.hid (hO8'.alloc (.cells #[.int .i64 (x : Int)] 3))
          have HC8 := Lib.hid (show (w8.alloc (.cells #[.int .i64 (x : Int)] 3)).cell? ⟨w8.heap.size, 0, none⟩ = some (.int .i64 (x : Int)) from (Has.made w8 3 [.int .i64 (x : Int)]).cell 0)
          have HB8 := Lib.hid (hb8.alloc hb8.size (.cells #[.int .i64 (x : Int)] 3))
          clear hO8 hO8' hK8 hg8 hb8 H0 B0 HN0
          go_wp2_with (at_builtin; refine wpList_row1G (w8.alloc (.cells #[.int .i64 (x : Int)] 3)) w7.heap.size g8 m cap8 w8.heap.size rfl _ _ rfl (flt l x) x rfl rfl HO8.out HC8.out (by omega) HB8.out.size ?_)
          intro g9 cap9 w9 hO9 hK9 hg9 hl9
          have hg8 := (own_g_lt HO8.out).2
          have hb9 : Below w7.heap.size w7 w9 := HB8.out.trans (hK9.below HB8.out.size (fun k hk e => by omega))
          have HI9 := Lib.hid (ints_of_owns hO9 hlen4)
          have HL9 := Lib.hid (HL7.out.trans (hb9.mono HL7.out.size))
          have HV9 := Lib.hid (HV7.out.below hb9)
          have HT9 := Lib.hid (HT7.out.below hb9)
          have HN9 := Lib.hid (HN7.out.below hb9)
          clear hO9 hK9 hg9 hl9 hg8 hb9
          have HE := Lib.hid (Ints_yes A5 (some ⟨g9, 0, none⟩) c5 cap9 (cI (flt l x ++ [x])) w9 HN9.out.at_ HI9.out (by rw [cI_len, hlen4]; omega))
          rw [cI_len, hlen4] at HE
          go_wp2_with fail
          refine HE.out.mono ?_
          rintro e w10 ⟨rfl, m10, rfl⟩
          have hbb : Below w9.heap.size w9 (w9.drewN m10) := ⟨rfl, rfl, rfl, Nat.le_refl _, fun _ _ => rfl⟩
          have HLA := Lib.hid (HL9.out.trans (hbb.mono HL9.out.size))
          have HVA := Lib.hid (HV9.out.below hbb)
          have HTA := Lib.hid (HT9.out.below hbb)
          generalize w9.drewN m10 = wa at *
          clear hbb HE
          have HE := Lib.hid (Ints_yes A7 Av c7 capv (cI (flt l x)) wa HTA.out.at_ HVA.out.at_ (by rw [cI_len, HM.out]; omega))
          rw [cI_len, HM.out] at HE
          go_wp2_with fail
          refine HE.out.mono ?_
          rintro e w11 ⟨rfl, m11, rfl⟩
          have hbb : Below wa.heap.size wa (wa.drewN m11) := ⟨rfl, rfl, rfl, Nat.le_refl _, fun _ _ => rfl⟩
          have HLB := Lib.hid (HLA.out.trans (hbb.mono HLA.out.size))
          generalize wa.drewN m11 = wb at *
          clear hbb HE
          go_wp2_with fail
          refine (live_any _).mono ?_
          rintro e w12 ⟨rfl, hb⟩
          have HB12 := Lib.hid (HLB.out.trans (hb.mono HLB.out.size))
          clear hb
          go_wp2
          go_ret
          exact ⟨rfl, HB12.out⟩
set_option maxRecDepth 100000 in
theorem walk (A : Option Addr) (len cap : Nat) (k : Int) {W : World} (hops : IsOps W A len cap) (hk : (Lit.int .i64 k).wf = true) :
    Calls Try.prog 5 #[.slice A len cap, .int .i64 k] W fun e w' => e = .returned (.bool true) ∧ Below W.heap.size W w' := by
  have hki := wf_I64 hk
  by_cases hh : len ≤ 60 ∧ 0 ≤ k
  · obtain ⟨x, rfl⟩ := Int.eq_ofNat_of_zero_le hh.2
    exact main A len cap x (by unfold I64 at hki; omega) hops hh.1
  · have hlm : len ≤ 9223372036854775807 := by have := hops.2.1; have := hops.1; unfold maxLen at *; omega
    clear hk hops
    have tt : (decide ((60 : Int) < (len : Int)) || decide (k < 0)) = true := by
      simp
      omega
    by_cases h60 : 60 < len
    · have t1 : decide ((60 : Int) < (len : Int)) = true := by simp; omega
      clear hh tt
      go_enter Try.func5, Try.ntmps5
      go_wp2_with fail
      refine (New_T W).mono ?_
      rintro e w1 ⟨bP, bM, rfl, hW, hB, h1, h2⟩
      have HB := Lib.hid hB
      clear hW hB h1 h2
      go_wp2_with fail
      refine (live_any _).mono ?_
      rintro e w6 ⟨rfl, hb⟩
      have HB8 := Lib.hid (HB.out.trans (hb.mono HB.out.size))
      clear hb
      go_wp2
      go_ret
      exact ⟨rfl, HB8.out⟩
    · have t1 : decide ((60 : Int) < (len : Int)) = false := by simp; omega
      have t2 : decide (k < 0) = true := by simp; omega
      clear hh tt
      go_enter Try.func5, Try.ntmps5
      go_wp2_with fail
      refine (New_T W).mono ?_
      rintro e w1 ⟨bP, bM, rfl, hW, hB, h1, h2⟩
      have HB := Lib.hid hB
      clear hW hB h1 h2
      go_wp2_with fail
      refine (live_any _).mono ?_
      rintro e w6 ⟨rfl, hb⟩
      have HB8 := Lib.hid (HB.out.trans (hb.mono HB.out.size))
      clear hb
      go_wp2
      go_ret
      exact ⟨rfl, HB8.out⟩

theorem own : ownKnob Try.prog.godebug = none := by kernel_rfl
theorem laidOut : laidOutB Try.prog = true := by kernel_rfl
theorem contract (H : Type) (enc : TypeId × Value → H) (W : World) (base : Nat) (args : Array Value) (ds gs : List (DataW H)) (before : List MemPlace)
    (hval : ∀ (j : Nat) t v, Try.f5.params[j]? = some t → args[j]? = some v → Value.okWide Try.prog W .any base t v)
    (hW : DataW.Whole enc Try.prog Try.f5.params.toList Rows.recentTouchesSpec.vars false W args.toList ds gs before) :
    Calls Try.prog 5 args W fun e W' => ∃ v, e = .returned v ∧ Rows.recentTouchesSpec.post enc Try.prog Try.f5 false true false false W args v W' := by
  have hW' := hW
  obtain ⟨p, q, hA0, hV, rfl, hfz, hnd⟩ := hW
  have hA : DataW.TrodAll enc Try.prog W 0 (fun _ => true) true Try.f5.params.toList args.toList ds p := hA0
  rw [Try.params5] at hA hval
  obtain ⟨v0, vs0, d0, ds0, p0, q0, hargs, rfl, rfl, h0, r0⟩ := trodAll_cons hA
  obtain ⟨v1, vs1, d1, ds1, p1, q1, rfl, rfl, rfl, h1, r1⟩ := trodAll_cons r0
  obtain ⟨rfl, rfl, rfl⟩ := trodAll_nil r1
  obtain rfl : args = #[v0, v1] := by cases args; simp_all
  obtain ⟨rfl, rfl⟩ := trodVars_none hV
  have k0 := h0
  have lt0 : ∀ x ∈ p0, x.block < W.heap.size := by obtain ⟨m, hm⟩ := k0; exact DataW.trod_lt m _ _ _ hm
  obtain ⟨a0, len0, cap0, rfl, w0⟩ := open_ops (hval 0 22 v0 rfl rfl) h0
  obtain ⟨a1, rfl, rfl, rfl, w1⟩ := open_int Try.underlying3 (hval 1 3 v1 rfl rfl) h1
  clear hA0
  refine (walk a0 len0 cap0 a1 w0 w1).mono fun e W' ⟨he, bel⟩ => ?_
  subst he
  exact ⟨_, rfl, _, _, _, [], _, [], hW', trodAll_mk1 (shut_bool Try.underlying4 _), (trodAll_cons_mk (Below.trod laidOut (by kernel_rfl) (of_decide_eq_true (by kernel_rfl)) k0 bel lt0) (trodAll_cons_mk (shut_int Try.underlying3 w1) trodAll_mk0)), rfl, bel.frame _, fun h => by cases h⟩

set_option maxRecDepth 100000 in
theorem lifted (os : Os) (started : os.Started) (H : Type) (enc : TypeId × Value → H) :
    ReturnsInHanded {} Try.checked os 5 .any (Rows.recentTouchesSpec.pre6 enc Try.prog Try.f5 Rows.recentTouchesRow.domain false) (Rows.recentTouchesSpec.post enc Try.prog Try.f5 false true false false) := by
  refine returnsInHanded_of_change (C := Try.checked) own started (by kernel_rfl) Try.func5
    (ChangeSpec.witness6 (enc := enc) (C := Try.checked) false ⟨#[], #[.slice none 0 0, .int .i64 0], []⟩ 8 (by kernel_rfl) (by kernel_rfl) (by kernel_rfl) (by kernel_rfl)) ?_
  intro W base args ds gs before hval hW _ _
  exact contract H enc W base args ds gs before hval hW

theorem over : Rows.recentTouchesRow.holds Try.pinned (OpenSpec.ofChange Rows.recentTouchesSpec) :=
  OpenClaim.holds_of_wide 5 Try.f5 rfl rfl rfl rfl rfl rfl rfl ⟨rfl, rfl, rfl, rfl, rfl⟩ rfl rfl rfl rfl rfl (by kernel_rfl) Try.func5 (by kernel_rfl)
    (of_decide_eq_true (by kernel_rfl)) (by unfold Func.isWrapper; first | (rw [if_pos (by decide +kernel)]; kernel_rfl) | (rw [if_neg (by decide +kernel)]; exact ⟨rfl, rfl⟩))
    (fun os started H enc _ => lifted os started H enc)
end Go.Proofs.Ytjkejlnelkckgaa.recentTouches
namespace Go.Proofs.Ytjkejlnelkckgaa
theorem recentTouches_proved : Rows.RecentTouchesSaid := recentTouches.over
end Go.Proofs.Ytjkejlnelkckgaa

