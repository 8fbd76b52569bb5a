/- The document's map: Put. -/
import Derived.Test.YtgcdminjpdbchaaDoorRbM3
namespace Go.Proofs.YtgcdminjpdbchaaDoor
open Go.ChangeShapes Go.WideShapes Go.ChangeAt Go.RowKit
set_option linter.unusedVariables false

/-- What Put tells, and makes of the document's map. -/
structure PutM1 (B : Nat) (bM : Nat) (v : Value) (most : Nat) (M' : ByteArray → Option Int) (c' : Nat) (w : World) (v' : Value) (l' : List Pr) (w' : World) : Prop where
  m : Mp B w' bM v' l' most
  lm : LM l' M'
  ln : l'.length = c'
  kp : Kept (fun b => b = bM ∨ v.ownBlock = some b) w w'
  fr : ∀ b, v'.ownBlock = some b → v.ownBlock = some b ∨ w.heap.size ≤ b
def PutM (B : Nat) (bM : Nat) (v : Value) (most : Nat) (r : Int × (ByteArray → Option Int) × Nat) (w : World) (e : Ending) (w' : World) : Prop := e = .returned (.int .i64 r.1) ∧ ∃ v' l', PutM1 B bM v most r.2.1 r.2.2 w v' l' w'
theorem lit_ge {H n c b : Nat} (e : (Value.slice (some ⟨H, 0, none⟩) n c).ownBlock = some b) : H ≤ b := by
  have : b = H := by simpa [Value.ownBlock] using e.symm
  omega
theorem upd_fun (M : ByteArray → Option Int) (k : ByteArray) (o : Option Int) : (fun x => if x = k then o else M x) = upd M k o := rfl
/-- A row of three parts in the map's place. -/
theorem put_new {B bM most : Nat} {w w2 : World} {v : Value} {l : List Pr} {k : ByteArray} {y : Int} {i : Nat} {M : ByteArray → Option Int} {A : Option Addr} {cap q : Nat} (h : Mp B w bM v l most) (hM : LM l M) (hp : Place l k i) (hn : M k = none) (hk : Kept (fun _ => False) w w2) (ho : OwnPr w.heap.size 70 w2 (.slice A q cap) (l.take i ++ [(k, y)] ++ l.drop i)) (hB : B ≤ w.heap.size) :
    PutM1 B bM v most (upd M k (some y)) (l.length + 1) w (.slice A q cap) (l.take i ++ [(k, y)] ++ l.drop i) (w2.setCell ⟨bM, 0, none⟩ (.slice A q cap)) := by
  have h2 := h.kept hk (fun q => q) (fun _ _ q => q)
  have hs : Kept (fun b => b = bM) w2 (w2.setCell ⟨bM, 0, none⟩ (.slice A q cap)) := (Kept.refl (fun b => b = bM) w2).setCell (p := ⟨bM, 0, none⟩) (.inl rfl) _
  have hlt := h.h.lt
  have e : l.take i ++ [(k, y)] ++ l.drop i = l.take i ++ (k, y) :: l.drop i := by simp
  refine ⟨⟨h2.h.store 0 _, (ho.base hB).kept hs (fun b hb q => ?_)⟩, by rw [e]; exact hM.put hp hn y, ?_, (hk.mono (fun _ _ q => q.elim)).trans hs (fun b q => .inl (.inl q)), fun b hb => .inr (owns_lt ho hb).1⟩
  · have := (owns_lt ho hb).1
    omega
  · rw [e, List.length_append, List.length_cons, List.length_take, List.length_drop]
    have := hp.le
    omega
theorem put_set {B bM most : Nat} {w : World} {l : List Pr} {g n cap : Nat} {y : Int} {i : Nat} {p : Pr} {M : ByteArray → Option Int} (h : Mp B w bM (.slice (some ⟨g, 0, none⟩) n cap) l most) (hM : LM l M) (hp : l[i]? = some p) :
    PutM1 B bM (.slice (some ⟨g, 0, none⟩) n cap) most (upd M p.1 (some y)) l.length w (.slice (some ⟨g, 0, none⟩) n cap) (l.set i (p.1, y)) (w.setCell ⟨g, i * 2 + 1, none⟩ (.int .i64 y)) :=
  ⟨⟨h.h.apart (p := ⟨g, i * 2 + 1, none⟩) (owns_ne h.o rfl h.h (by decide)) _, h.o.store hp y⟩, hM.set hp y, by rw [List.length_set], (Kept.refl _ w).setCell (p := ⟨g, i * 2 + 1, none⟩) (.inl (.inr rfl)) _, fun b hb => .inl hb⟩
theorem PutM1.from {B bM most c' : Nat} {v v' : Value} {M' : ByteArray → Option Int} {w w0 w' : World} {l' : List Pr} (h : PutM1 B bM v most M' c' w0 v' l' w') (hb : Below w.heap.size w w0) : PutM1 B bM v most M' c' w v' l' w' :=
  ⟨h.m, h.lm, h.ln, ((Kept.of_below (F := fun _ => False) hb).mono (fun _ _ q => q.elim)).trans h.kp (fun _ q => .inl q), fun b e => (h.fr b e).imp id (fun q => Nat.le_trans hb.size q)⟩
theorem PutM1.same {B bM most : Nat} {v : Value} {M : ByteArray → Option Int} {w : World} {l : List Pr} (h : Mp B w bM v l most) (hM : LM l M) : PutM1 B bM v most M l.length w v l w := ⟨h, hM, rfl, Kept.refl _ _, fun _ e => .inl e⟩
theorem PutM1.drew {B bM most c' : Nat} {v v' : Value} {M' : ByteArray → Option Int} {w w' : World} {l' : List Pr} (h : PutM1 B bM v most M' c' w v' l' w') (m : Nat) : PutM1 B bM v most M' c' w v' l' (w'.drewN m) :=
  ⟨h.m.drewN m, h.lm, h.ln, h.kp.drewN m, h.fr⟩
set_option maxRecDepth 100000 in
set_option maxHeartbeats 1000000 in
theorem rPut_any (B : Nat) (w : World) (bM : Nat) (v : Value) (l : List Pr) (most : Nat) (M : ByteArray → Option Int) (k : ByteArray) (y : Int) (hl : l.length ≤ most) (hmo : most ≤ 256) (hk : k.size ≤ maxLen) (hB : B ≤ w.heap.size) (h : Mp B w bM v l most) (hM : LM l M) :
    Calls Tryd.prog 26 #[.pointer (some ⟨bM, 0, none⟩), .string k, .int .i64 y] w (PutM B bM v most (putR most M l.length k y) w) := by
  have HMay := Lib.hid (May_any k w hk)
  have HPL := Lib.hid (place_any B w bM v l most k (by omega) h)
  have HH := Lib.hid h
  have HM := Lib.hid hM
  have HBB := Lib.hid hB
  clear h hM hk hB
  by_cases hok : 1 ≤ k.size ∧ k.size ≤ 33
  · rw [decide_eq_true hok] at HMay
    go_enter Tryd.func26, Tryd.ntmps26
    go_wp2_with fail
    refine HMay.out.mono ?_
    rintro e w1 ⟨rfl, rfl⟩
    go_wp2_with fail
    refine HPL.out.mono ?_
    rintro e w1 ⟨i, b, rfl, ⟨m, rfl⟩, hp, hi⟩
    have HD := Lib.hid (HH.out.drewN m)
    have HB0 := Lib.hid (below_drewN (Below.refl w.heap.size w) m)
    rcases hi with ⟨rfl, p, hpi, hkk⟩ | ⟨rfl, hno⟩
    · have hMk := hp.is HM.out hpi hkk
      have hr : putR most M l.length k y = (0, upd M k (some y), l.length) := by unfold putR; rw [if_pos hok, if_pos (by rw [hMk]; rfl)]
      have HR := Lib.hid hr
      obtain ⟨b, cap, rfl, hc1, hc2⟩ : ∃ b cap, v = .slice (some ⟨b, 0, none⟩) l.length cap ∧ l.length ≤ cap ∧ cap ≤ maxLen := by
        rcases own_form HD.out.o with ⟨_, e⟩ | e
        · rw [e] at hpi; simp at hpi
        · exact e
      have hlt := (List.getElem?_eq_some_iff.1 hpi).1
      have c0 := HH.out.h.cell 0
      obtain ⟨A', cap', e1, _, _, hA⟩ := HH.out.o.at_
      obtain rfl : some ⟨b, 0, none⟩ = A' := by injection e1
      obtain ⟨b', off', e2, hb', hcell⟩ := hA (by omega)
      cases e2
      have x1 := (hcell i p hpi).2
      have z1 := HH.out.o.loose
      simp at c0 x1
      have HS := Lib.hid (put_set (y := y) HD.out HM.out hpi)
      rw [hkk] at HS
      unfold maxLen at hc2
      clear hp hpi hkk hMk hr hcell hA e1
      go_wp2
      go_ret
      exact ⟨by rw [HR.out]; rfl, _, _, by rw [HR.out]; exact HS.out.from HB0.out⟩
    · have hMk := hp.no HM.out hno
      have HP := Lib.hid hp
      have HNO := Lib.hid hMk
      have hle := hp.le
      have c0 := HH.out.h.cell 0
      have c1 := HH.out.h.cell 1
      simp at c0 c1
      have HLEN := len_own HH.out.o
      obtain ⟨n, hn⟩ : ∃ n, l.length = n := ⟨_, rfl⟩
      rw [hn] at HLEN hl hle
      have HN := Lib.hid hn
      clear hp hno
      by_cases hfull : n = most
      · have HR := Lib.hid (show putR most M l.length k y = (4, M, l.length) by unfold putR; rw [if_pos hok, if_neg (by rw [hMk]; simp), if_pos (by rw [hn]; exact hfull)])
        have HS := Lib.hid (PutM1.same HH.out HM.out)
        have d1 : decide ((most : Int) ≤ (n : Int)) = true := decide_eq_true (by omega)
        clear hMk hn
        go_wp2_with fail
        go_quiet (fail)
        go_wp2
        go_ret
        exact ⟨by rw [HR.out]; rfl, _, _, by rw [HR.out]; exact (HS.out.drew _).drew _⟩
      · have HR := Lib.hid (show putR most M l.length k y = (0, upd M k (some y), l.length + 1) by unfold putR; rw [if_pos hok, if_neg (by rw [hMk]; simp), if_neg (by rw [hn]; exact hfull)])
        have d1 : decide ((most : Int) ≤ (n : Int)) = false := decide_eq_false (by omega)
        have d2 : ¬ (most : Int) ≤ (n : Int) := by omega
        clear hMk hn
        go_wp2_with fail
        go_quiet (fail)
        have HX := Lib.hid (HD.out.drewN nq)
        have HBX := Lib.hid (below_drewN HB0.out nq)
        have HB0X := Lib.hid (show B ≤ ((w.drewN m).drewN nq).heap.size from HBB.out)
        have HD0 : ((w.drewN m).drewN nq).cell? ⟨bM, 0, none⟩ = some v := c0
        have HLB : bM < ((w.drewN m).drewN nq).heap.size := HX.out.h.lt
        generalize (w.drewN m).drewN nq = W0 at HX HBX HB0X HD0 HLB ⊢
        obtain ⟨B1, e1, B2, e2, hcut⟩ := cut_of HX.out.o HP.out.le
        have hpre := hcut.pre
        have hrest := hcut.rest
        rw [HN.out] at hrest
        have HC1 := Lib.hid hcut.at1
        have HC2 := Lib.hid hcut.at2
        have HO1 := Lib.hid (show OwnPr W0.heap.size 70 (W0.alloc (.cells #[] 70)) (.slice (some ⟨W0.heap.size, 0, none⟩) 0 0) [] from World.ownsRow_lit W0 #[] 0 (Nat.le_refl _) (by unfold maxLen; omega) rfl)
        have K1 := Lib.hid ((Kept.refl (fun _ => False) W0).alloc (.cells #[] 70))
        have HA1 := Lib.hid (HC1.out _ (HX.out.kept K1.out (fun q => q) (fun _ _ q => q)).o)
        have HT1 := Lib.hid (show (l.take i).length = i by rw [List.length_take, HN.out]; omega)
        have HT2 := Lib.hid (show (l.drop i).length = n - i by rw [List.length_drop, HN.out])
        have HK1 := Lib.hid (show ([] : List Pr).length + (l.take i).length = i by rw [HT1.out]; simp)
        have HK2 := Lib.hid (show (l.take i).length + [(k, y)].length = i + 1 by rw [HT1.out]; rfl)
        have HK3 := Lib.hid (show (l.take i ++ [(k, y)]).length + (l.drop i).length = n + 1 by rw [List.length_append, HT1.out, HT2.out]; simp; omega)
        clear hcut c0 c1
        go_wp2_with (first
          | (at_builtin; refine wpList_append_pr W0.heap.size Tryd.underlying37 infoPair (W0.alloc (.cells #[] 70)) rfl _ _ rfl (.slice (some ⟨W0.heap.size, 0, none⟩) 0 0) [] (l.take i) B1 i e1 i HK1.out rfl rfl HT1.out HO1.out HA1.out K1.out.size (by omega) ?_; intro A1 f1 w2 ho2 hk2 _; have K2 := Lib.hid (K1.out.trans hk2 (fun b e => .inr (lit_ge e))); have HO2 := Lib.hid (show OwnPr W0.heap.size 70 w2 (.slice A1 i f1) (l.take i) from ho2); have HX2 := Lib.hid (HX.out.kept K2.out (fun q => q) (fun _ _ q => q)); have g0 := HX2.out.h.cell 0; simp at g0; have KL := Lib.hid ((Kept.refl (fun _ => False) w2).alloc (.cells #[.string k, .int .i64 y] 70)); have HO3 := Lib.hid (HO2.out.kept KL.out (fun _ _ q => q)); have HA3 := Lib.hid (PrAt.lit (p := (k, y)) (Has.made w2 70 [.string k, .int .i64 y])); have HS3 := Lib.hid (show W0.heap.size ≤ (w2.alloc (.cells #[.string k, .int .i64 y] 70)).heap.size from Nat.le_trans K2.out.size KL.out.size); clear ho2 hk2)
          | (at_builtin; refine wpList_append_pr W0.heap.size Tryd.underlying37 infoPair (w2.alloc (.cells #[.string k, .int .i64 y] 70)) rfl _ _ rfl (.slice A1 i f1) (l.take i) [(k, y)] (some ⟨w2.heap.size, 0, none⟩) 1 1 (i + 1) HK2.out rfl rfl rfl HO3.out HA3.out HS3.out (by omega) ?_; intro A2 f2 w4 ho4 hk4 _; have K4 := Lib.hid ((K2.out.trans KL.out (fun _ q => .inl q)).trans hk4 (fun b e => .inr (owns_lt HO3.out e).1)); have HO4 := Lib.hid ho4; have HX4 := Lib.hid (HX.out.kept K4.out (fun q => q) (fun _ _ q => q)); have g4 := HX4.out.h.cell 0; simp at g4; have HA4 := Lib.hid (HC2.out w4 HX4.out.o); clear ho4 hk4)
          | (at_builtin; refine wpList_append_pr W0.heap.size Tryd.underlying37 infoPair w4 rfl _ _ rfl (.slice A2 (i + 1) f2) (l.take i ++ [(k, y)]) (l.drop i) B2 (n - i) e2 (n + 1) HK3.out rfl rfl HT2.out HO4.out HA4.out K4.out.size (by omega) ?_; intro A3 f3 w5 ho5 hk5 _; have K5 := Lib.hid (K4.out.trans hk5 (fun b e => .inr (owns_lt HO4.out e).1)); have HO5 := Lib.hid ho5; have HX5 := Lib.hid (HX.out.kept K5.out (fun q => q) (fun _ _ q => q)); have g5 := HX5.out.h.cell 0; simp at g5; have g6 : ∀ i, w5.frozen? ⟨bM, i, none⟩ = false := HX5.out.h.loose; clear ho5 hk5))
        go_ret
        exact ⟨by rw [HR.out]; rfl, _, _, by rw [HR.out]; exact (put_new HX.out HM.out HP.out HNO.out K5.out HO5.out HB0X.out).from HBX.out⟩
  · rw [decide_eq_false hok] at HMay
    have hr : putR most M l.length k y = (1, M, l.length) := by unfold putR; rw [if_neg hok]
    rw [hr]
    go_enter Tryd.func26, Tryd.ntmps26
    go_wp2_with fail
    refine HMay.out.mono ?_
    rintro e w1 ⟨rfl, rfl⟩
    go_wp2
    go_ret
    exact ⟨rfl, _, _, PutM1.same HH.out HM.out⟩
end Go.Proofs.YtgcdminjpdbchaaDoor
