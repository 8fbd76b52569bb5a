/- answer.May, Encode and Decode of whatever answer, of whatever bytes. -/
import Derived.Test.YtljllfopgpmekabSa1
import Derived.Test.YtljllfopgpmekabWb3
import Derived.Test.YtljllfopgpmekabRd2
-- prune
namespace Go.Proofs.Ytljllfopgpmekab
open Go.ChangeShapes Go.WideShapes Go.ChangeAt Go.RowKit
set_option linter.unusedVariables false

/-- An answer's block of a call's own. -/
structure BW (C : List Value) (w w1 : World) : Prop where
  x : Has w1 w.heap.size 43 C
  be : Below w.heap.size w w1
section
variable {C : List Value} {w w1 w2 : World}
theorem BW.made (C : List Value) (w : World) : BW C w (w.alloc (.cells C.toArray 43)) := ⟨Has.made _ _ _, (Below.refl _ _).alloc (Nat.le_refl _) _⟩
theorem BW.drew (h : BW C w w1) : BW C w w1.drew := ⟨h.x.drew, h.be.drew⟩
theorem BW.next (h : BW C w w1) (hb : Below w1.heap.size w1 w2) : BW C w w2 := ⟨h.x.below hb h.x.lt, h.be.trans (hb.mono h.be.size)⟩
theorem BW.old (h : BW C w w1) : Below w.heap.size w w1 := h.be
end
theorem AnAt.old {w w' : World} {a : An} {A N : Option Addr} {ca cn : Nat} (h : AnAt w a A ca N cn) (hb : Below w.heap.size w w') : IsAn w' (.agg #[.int .i64 a.kind, .int .i64 a.code, .slice A a.told.length ca, .int .i64 a.ver, .int .i64 a.pk, .int .i64 a.pl, .int .i64 a.pw, .int .i64 a.pb, .int .i64 a.now, .int .i64 a.count, .slice N a.names.length cn]) a := ⟨A, ca, N, cn, rfl, h.below hb⟩
theorem BW.cells {a : An} {A N : Option Addr} {ca cn : Nat} {w w1 : World} (h : BW [.int .i64 a.kind, .int .i64 a.code, .slice A a.told.length ca, .int .i64 a.ver, .int .i64 a.pk, .int .i64 a.pl, .int .i64 a.pw, .int .i64 a.pb, .int .i64 a.now, .int .i64 a.count, .slice N a.names.length cn] w w1) : w1.cell? ⟨w.heap.size, 0, none⟩ = some (.int .i64 a.kind) ∧ w1.cell? ⟨w.heap.size, 1, none⟩ = some (.int .i64 a.code) ∧ w1.cell? ⟨w.heap.size, 2, none⟩ = some (.slice A a.told.length ca) ∧ w1.cell? ⟨w.heap.size, 3, none⟩ = some (.int .i64 a.ver) ∧ w1.cell? ⟨w.heap.size, 4, none⟩ = some (.int .i64 a.pk) ∧ w1.cell? ⟨w.heap.size, 5, none⟩ = some (.int .i64 a.pl) ∧ w1.cell? ⟨w.heap.size, 6, none⟩ = some (.int .i64 a.pw) ∧ w1.cell? ⟨w.heap.size, 7, none⟩ = some (.int .i64 a.pb) ∧ w1.cell? ⟨w.heap.size, 8, none⟩ = some (.int .i64 a.now) ∧ w1.cell? ⟨w.heap.size, 9, none⟩ = some (.int .i64 a.count) ∧ w1.cell? ⟨w.heap.size, 10, none⟩ = some (.slice N a.names.length cn) :=
  ⟨h.x.cell 0, h.x.cell 1, h.x.cell 2, h.x.cell 3, h.x.cell 4, h.x.cell 5, h.x.cell 6, h.x.cell 7, h.x.cell 8, h.x.cell 9, h.x.cell 10⟩
theorem read_s (s : ByteArray) (hs : s.size ≤ maxLen) (w : World) :
    Calls Try.prog 46 #[.string s] w fun e w' => ∃ v, e = .returned v ∧ IsAnF w.heap.size w' v (rdAn s.data.toList) ∧ Below w.heap.size w w' := by
  have := read_any s.data.toList (by simpa using hs) w
  rw [bA_self] at this
  exact this
theorem anB_size (a : An) : (anB a).length ≤ 20000 := by
  have := anN_len a 32 (Nat.le_refl _)
  rwa [anN_all] at this
theorem may_iff (a : An) : rdAn (anB a) = a ↔ AnOk a := by
  constructor
  · intro h
    rw [← h]
    exact rdAn_ok _
  · intro h
    have := (rdAn_back h []).1
    rwa [List.append_nil] at this
theorem q_dec {p : Prop} [Decidable p] {q : Bool} (h : q = true ↔ p) : q = decide p := by
  cases q with
  | true => simp [h.1 rfl]
  | false =>
    have : ¬ p := fun e => absurd (h.2 e) (by decide)
    simp [this]
/-- What Encode tells. -/
noncomputable def encT (a : An) : List UInt8 := if AnOk a ∧ (anB a).length ≤ 512 then anB a else []
noncomputable def encC (a : An) : Int := if AnOk a then (if (anB a).length ≤ 512 then 0 else 8) else 1
set_option maxRecDepth 100000 in
theorem May_any (a : An) (v : Value) (w : World) (ha : IsAn w v a) :
    Calls Try.prog 23 #[v] w fun e w' => e = .returned (.bool (decide (AnOk a))) ∧ Below w.heap.size w w' := by
  obtain ⟨A, ca, N, cn, rfl, ha⟩ := ha
  have HA := Lib.hid ha
  have B0 := Lib.hid (BW.made (anC a A ca N cn) w)
  have W0 := Lib.hid (fun u (hu : Below w.heap.size w u) => write_any a _ u (HA.out.old hu))
  clear ha
  unfold anC at B0 ⊢
  go_enter Try.func23, Try.ntmps23
  go_wp2_with fail
  go_region_held3 (fun w' => w'.cell? ⟨w.heap.size, 0, none⟩ = some (.int .i64 a.kind) ∧ w'.cell? ⟨w.heap.size, 1, none⟩ = some (.int .i64 a.code) ∧ w'.cell? ⟨w.heap.size, 2, none⟩ = some (.slice A a.told.length ca) ∧ w'.cell? ⟨w.heap.size, 3, none⟩ = some (.int .i64 a.ver) ∧ w'.cell? ⟨w.heap.size, 4, none⟩ = some (.int .i64 a.pk) ∧ w'.cell? ⟨w.heap.size, 5, none⟩ = some (.int .i64 a.pl) ∧ w'.cell? ⟨w.heap.size, 6, none⟩ = some (.int .i64 a.pw) ∧ w'.cell? ⟨w.heap.size, 7, none⟩ = some (.int .i64 a.pb) ∧ w'.cell? ⟨w.heap.size, 8, none⟩ = some (.int .i64 a.now) ∧ w'.cell? ⟨w.heap.size, 9, none⟩ = some (.int .i64 a.count) ∧ w'.cell? ⟨w.heap.size, 10, none⟩ = some (.slice N a.names.length cn)) (first | (with_reducible exact BW.cells B0.out) | (with_reducible exact BW.cells B0.out.drew) | (with_reducible exact BW.cells B1.out) | (with_reducible exact BW.cells B2.out) | (with_reducible exact BW.cells B3.out) | go_keep) (first | (go_at_call 42; (with_reducible refine (W0.out _ B0.out.drew.be).mono ?_); rintro e w1 ⟨s, rfl, hs, hb⟩; have B1 := Lib.hid (B0.out.drew.next hb); have SS := Lib.hid (show s.data.toList = anB a ∧ s.size ≤ maxLen from ⟨hs, by have h1 := anB_size a; rw [← hs] at h1; simp at h1; unfold maxLen; omega⟩); clear hs hb) | (go_at_call 46; (with_reducible refine (read_s _ SS.out.2 _).mono ?_); rintro e w2 ⟨v2, rfl, hv, hb⟩; have B2 := Lib.hid (B1.out.next hb); rw [SS.out.1] at hv; have IV := Lib.hid hv.an; clear hv hb) | (go_at_call 45; (with_reducible refine (same_any (rdAn (anB a)) a _ _ _ IV.out (HA.out.old B2.out.be) ⟨by have := (rdAn_ok (anB a)).told; omega, by have := (rdAn_ok (anB a)).names; omega⟩).mono ?_); rintro e w3 ⟨⟨q, rfl, hq⟩, hb⟩; have B3 := Lib.hid (B2.out.next hb); have Q := Lib.hid (q_dec (hq.trans (may_iff a))); clear hq hb))
  all_goals
    go_wp2
    go_ret
    exact ⟨ret_bool Q.out, B3.out.be⟩

theorem ret_enc {t t' : List UInt8} {c c' : Int} (h : t = t') (k : c = c') : Ending.returned (.tuple #[.string (bA t), .int .i64 c]) = .returned (.tuple #[.string (bA t'), .int .i64 c']) := by rw [h, k]
theorem bA_sub {s : ByteArray} {l : List UInt8} (h : s.data.toList = l) : s = bA l := by rw [← h, bA_self]
set_option maxRecDepth 100000 in
theorem Encode_any (a : An) (v : Value) (w : World) (ha : IsAn w v a) :
    Calls Try.prog 21 #[v] w fun e w' => e = .returned (.tuple #[.string (bA (encT a)), .int .i64 (encC a)]) ∧ Below w.heap.size w w' := by
  obtain ⟨A, ca, N, cn, rfl, ha⟩ := ha
  have HA := Lib.hid ha
  have B0 := Lib.hid (BW.made (anC a A ca N cn) w)
  have W0 := Lib.hid (fun u (hu : Below w.heap.size w u) => write_any a _ u (HA.out.old hu))
  have M0 := Lib.hid (fun u (hu : Below w.heap.size w u) => May_any a _ u (HA.out.old hu))
  clear ha
  unfold anC at B0 ⊢
  by_cases hk : AnOk a
  · have D := Lib.hid (show decide (AnOk a) = true by simp [hk])
    go_enter Try.func21, Try.ntmps21
    go_wp2_with fail
    refine (M0.out _ B0.out.be).mono ?_
    rintro e w1 ⟨rfl, hb⟩
    rw [D.out]
    have B1 := Lib.hid (B0.out.next hb)
    obtain ⟨x0, x1, x2, x3, x4, x5, x6, x7, x8, x9, x10⟩ := B1.out.cells
    clear hb
    go_wp2_with fail
    refine (W0.out _ B1.out.be).mono ?_
    rintro e w2 ⟨s, rfl, hs, hb⟩
    have B2 := Lib.hid (B1.out.next hb)
    have hl : s.size = (anB a).length := by rw [← hs]; simp
    have hl2 := anB_size a
    obtain rfl := bA_sub hs
    have HK := Lib.hid hk
    clear hb hs hk x0 x1 x2 x3 x4 x5 x6 x7 x8 x9 x10
    by_cases h5 : (anB a).length ≤ 512
    · have R := Lib.hid (show encT a = anB a ∧ encC a = 0 by unfold encT encC; rw [if_pos ⟨HK.out, h5⟩, if_pos HK.out, if_pos h5]; exact ⟨rfl, rfl⟩)
      go_wp2
      go_ret2
      exact ⟨ret_enc R.out.1.symm R.out.2.symm, B2.out.be⟩
    · have R := Lib.hid (show encT a = [] ∧ encC a = 8 by unfold encT encC; rw [if_neg (fun e => h5 e.2), if_pos HK.out, if_neg h5]; exact ⟨rfl, rfl⟩)
      go_wp2
      go_ret2
      exact ⟨ret_enc R.out.1.symm R.out.2.symm, B2.out.be⟩
  · have D := Lib.hid (show decide (AnOk a) = false by simp [hk])
    have R := Lib.hid (show encT a = [] ∧ encC a = 1 by unfold encT encC; rw [if_neg (fun e => hk e.1), if_neg hk]; exact ⟨rfl, rfl⟩)
    clear hk
    go_enter Try.func21, Try.ntmps21
    go_wp2_with fail
    refine (M0.out _ B0.out.be).mono ?_
    rintro e w1 ⟨rfl, hb⟩
    rw [D.out]
    have B1 := Lib.hid (B0.out.next hb)
    clear hb
    go_wp2
    go_ret2
    exact ⟨ret_enc R.out.1.symm R.out.2.symm, B1.out.be⟩
/-- What Decode tells. -/
noncomputable def decA (l : List UInt8) : An := if l.length ≤ 512 ∧ anB (rdAn l) = l then rdAn l else zAn
noncomputable def decC (l : List UInt8) : Int := if l.length ≤ 512 ∧ anB (rdAn l) = l then 0 else 3
theorem isZ (w : World) : IsAn w (.agg (anC zAn none 0 none 0).toArray) zAn := ⟨none, 0, none, 0, rfl, Nat.le_refl _, Nat.zero_le _, Nat.le_refl _, Nat.zero_le _, SeqAt.nil, SeqAt.nil, by intro n hn; cases hn⟩
/-- .. as the end of a call. -/
def DecTold (l : List UInt8) (w : World) (e : Ending) (w' : World) : Prop := ∃ v, e = .returned (.tuple #[v, .int .i64 (decC l)]) ∧ IsAn w' v (decA l) ∧ Below w.heap.size w w'

theorem dec_zero (l : List UInt8) (w w' : World) (h : ¬ (l.length ≤ 512 ∧ anB (rdAn l) = l)) (hb : Below w.heap.size w w') : DecTold l w (.returned (.tuple #[.agg #[.int .i64 0, .int .i64 0, .slice none 0 0, .int .i64 0, .int .i64 0, .int .i64 0, .int .i64 0, .int .i64 0, .int .i64 0, .int .i64 0, .slice none 0 0], .int .i64 3])) w' := by
  refine ⟨.agg #[.int .i64 0, .int .i64 0, .slice none 0 0, .int .i64 0, .int .i64 0, .int .i64 0, .int .i64 0, .int .i64 0, .int .i64 0, .int .i64 0, .slice none 0 0], ?_, ?_, hb⟩
  · unfold decC; rw [if_neg h]
  · unfold decA; rw [if_neg h]; exact isZ w'
theorem dec_yes (l : List UInt8) (w w' : World) (v : Value) (h : l.length ≤ 512 ∧ anB (rdAn l) = l) (hv : IsAn w' v (rdAn l)) (hb : Below w.heap.size w w') : DecTold l w (.returned (.tuple #[v, .int .i64 0])) w' := by
  refine ⟨v, ?_, ?_, hb⟩
  · unfold decC; rw [if_pos h]
  · unfold decA; rw [if_pos h]; exact hv
theorem dec_yes2 (l : List UInt8) (w w' : World) {a : An} {A N : Option Addr} {ca cn : Nat} (ea : a = rdAn l) (h : l.length ≤ 512 ∧ anB (rdAn l) = l) (k : Below w.heap.size w w' ∧ AnAt w' a A ca N cn) : DecTold l w (.returned (.tuple #[.agg #[.int .i64 a.kind, .int .i64 a.code, .slice A a.told.length ca, .int .i64 a.ver, .int .i64 a.pk, .int .i64 a.pl, .int .i64 a.pw, .int .i64 a.pb, .int .i64 a.now, .int .i64 a.count, .slice N a.names.length cn], .int .i64 0])) w' :=
  dec_yes l w w' _ h (by rw [← ea]; exact ⟨A, ca, N, cn, rfl, k.2⟩) k.1
theorem AnAt.kept {w w' : World} {a : An} {A N : Option Addr} {ca cn g : Nat} (h : AnAt w a A ca N cn) (hk : Kept (fun b => b = g) w w') (h1 : ∀ b off, A = some ⟨b, off, none⟩ → g < b) (h2 : ∀ b off, N = some ⟨b, off, none⟩ → g < b) : AnAt w' a A ca N cn :=
  ⟨h.t1, h.t2, h.n1, h.n2, h.ts.kept hk (fun b off e q => by have := h1 b off e; omega), h.ns.kept hk (fun b off e q => by have := h2 b off e; omega), h.ks⟩
set_option maxRecDepth 100000 in
set_option maxHeartbeats 2000000 in
theorem Decode_any (l : List UInt8) (hl : l.length ≤ maxLen) (w : World) :
    Calls Try.prog 25 #[.string (bA l)] w (DecTold l w) := by
  have hs := bA_size l
  by_cases h5 : l.length ≤ 512
  · have Z0 := Lib.hid (BW.made (anC zAn none 0 none 0) w)
    have HL := Lib.hid hl
    unfold anC zAn at Z0
    simp only at Z0
    clear hl
    go_enter Try.func25, Try.ntmps25
    go_wp2_with fail
    refine (read_any l HL.out _).mono ?_
    rintro e w1 ⟨v, rfl, hv, hb⟩
    have Z1 := Lib.hid (Z0.out.next hb)
    clear hb
    obtain ⟨A, ca, N, cn, rfl, hv, fA, fN⟩ := hv
    have HV := Lib.hid hv
    have HF := Lib.hid (And.intro fA fN)
    obtain ⟨a, ha⟩ : ∃ a, a = rdAn l := ⟨_, rfl⟩
    rw [← ha] at HV ⊢
    have EA := Lib.hid ha
    clear hv ha fA fN
    have X1 := Lib.hid (BW.made (anC a A ca N cn) w1)
    unfold anC at X1 ⊢
    have Z2 := Lib.hid (Z1.out.next (X1.out.be))
    go_wp2_with fail
    refine (write_any a _ _ (HV.out.old X1.out.be)).mono ?_
    rintro e w2 ⟨s, rfl, hs, hb⟩
    have X2 := Lib.hid (X1.out.next hb)
    have Z3 := Lib.hid (Z2.out.next hb)
    obtain rfl := bA_sub hs
    clear hb hs
    by_cases he : anB a = l
    · have KE := Lib.hid (show l.length ≤ 512 ∧ anB (rdAn l) = l from ⟨h5, by rw [← EA.out]; exact he⟩)
      have ne := X2.out.be.size
      have ne2 := Z1.out.x.lt
      have hd : (anB a == l) = true := by simp [he]
      clear he
      have lc0 := X2.out.x.cell 0
      have rc0 := Z3.out.x.cell 0
      have rf0 := Z3.out.x.loose 0
      simp at lc0 rc0
      have lc1 := X2.out.x.cell 1
      have rc1 := Z3.out.x.cell 1
      have rf1 := Z3.out.x.loose 1
      simp at lc1 rc1
      have lc2 := X2.out.x.cell 2
      have rc2 := Z3.out.x.cell 2
      have rf2 := Z3.out.x.loose 2
      simp at lc2 rc2
      have lc3 := X2.out.x.cell 3
      have rc3 := Z3.out.x.cell 3
      have rf3 := Z3.out.x.loose 3
      simp at lc3 rc3
      have lc4 := X2.out.x.cell 4
      have rc4 := Z3.out.x.cell 4
      have rf4 := Z3.out.x.loose 4
      simp at lc4 rc4
      have lc5 := X2.out.x.cell 5
      have rc5 := Z3.out.x.cell 5
      have rf5 := Z3.out.x.loose 5
      simp at lc5 rc5
      have lc6 := X2.out.x.cell 6
      have rc6 := Z3.out.x.cell 6
      have rf6 := Z3.out.x.loose 6
      simp at lc6 rc6
      have lc7 := X2.out.x.cell 7
      have rc7 := Z3.out.x.cell 7
      have rf7 := Z3.out.x.loose 7
      simp at lc7 rc7
      have lc8 := X2.out.x.cell 8
      have rc8 := Z3.out.x.cell 8
      have rf8 := Z3.out.x.loose 8
      simp at lc8 rc8
      have lc9 := X2.out.x.cell 9
      have rc9 := Z3.out.x.cell 9
      have rf9 := Z3.out.x.loose 9
      simp at lc9 rc9
      have lc10 := X2.out.x.cell 10
      have rc10 := Z3.out.x.cell 10
      have rf10 := Z3.out.x.loose 10
      simp at lc10 rc10
      have K := Lib.hid (fun w3 (hk : Kept (fun b => b = w.heap.size) w2 w3) => And.intro (Z3.out.be.trans (hk.below Z3.out.be.size (fun k hk => by show ¬ k = _; omega))) ((HV.out.below X2.out.be).kept hk (fun b off e => by have := HF.out.1 b off e; simp at this; omega) (fun b off e => by have := HF.out.2 b off e; simp at this; omega)))
      go_wp2
      refine bodyPost_ret (v := .tuple #[.agg #[.int .i64 a.kind, .int .i64 a.code, .slice A a.told.length ca, .int .i64 a.ver, .int .i64 a.pk, .int .i64 a.pl, .int .i64 a.pw, .int .i64 a.pb, .int .i64 a.now, .int .i64 a.count, .slice N a.names.length cn], .int .i64 0]) (by simp [results, Try.results25, go_sem, rc0, rc1, rc2, rc3, rc4, rc5, rc6, rc7, rc8, rc9, rc10]) rfl ?_
      refine dec_yes2 l w _ EA.out KE.out (K.out _ ?_)
      repeat (first | refine Kept.setCell (F := fun b => b = w.heap.size) (p := ⟨w.heap.size, _, none⟩) ?_ (Or.inl (Eq.refl w.heap.size)) _ | with_reducible exact Kept.refl _ _)
    · have KE := Lib.hid (show ¬ (l.length ≤ 512 ∧ anB (rdAn l) = l) from fun q => he (by rw [EA.out]; exact q.2))
      have hd : (anB a == l) = false := by simpa using he
      clear he
      have rc0 := Z3.out.x.cell 0
      have rf0 := Z3.out.x.loose 0
      simp at rc0
      have rc1 := Z3.out.x.cell 1
      have rf1 := Z3.out.x.loose 1
      simp at rc1
      have rc2 := Z3.out.x.cell 2
      have rf2 := Z3.out.x.loose 2
      simp at rc2
      have rc3 := Z3.out.x.cell 3
      have rf3 := Z3.out.x.loose 3
      simp at rc3
      have rc4 := Z3.out.x.cell 4
      have rf4 := Z3.out.x.loose 4
      simp at rc4
      have rc5 := Z3.out.x.cell 5
      have rf5 := Z3.out.x.loose 5
      simp at rc5
      have rc6 := Z3.out.x.cell 6
      have rf6 := Z3.out.x.loose 6
      simp at rc6
      have rc7 := Z3.out.x.cell 7
      have rf7 := Z3.out.x.loose 7
      simp at rc7
      have rc8 := Z3.out.x.cell 8
      have rf8 := Z3.out.x.loose 8
      simp at rc8
      have rc9 := Z3.out.x.cell 9
      have rf9 := Z3.out.x.loose 9
      simp at rc9
      have rc10 := Z3.out.x.cell 10
      have rf10 := Z3.out.x.loose 10
      simp at rc10
      have K := Lib.hid (fun w3 (hk : Kept (fun b => b = w.heap.size) w2 w3) => Z3.out.be.trans (hk.below Z3.out.be.size (fun k hk => by show ¬ k = _; omega)))
      go_wp2
      refine bodyPost_ret (v := .tuple #[.agg #[.int .i64 0, .int .i64 0, .slice none 0 0, .int .i64 0, .int .i64 0, .int .i64 0, .int .i64 0, .int .i64 0, .int .i64 0, .int .i64 0, .slice none 0 0], .int .i64 3]) (by simp [results, Try.results25, go_sem, rc0, rc1, rc2, rc3, rc4, rc5, rc6, rc7, rc8, rc9, rc10]) rfl ?_
      refine dec_zero l w _ KE.out (K.out _ ?_)
      repeat (first | refine Kept.setCell (F := fun b => b = w.heap.size) (p := ⟨w.heap.size, _, none⟩) ?_ (Or.inl (Eq.refl w.heap.size)) _ | with_reducible exact Kept.refl _ _)
  · have KE := Lib.hid (show ¬ (l.length ≤ 512 ∧ anB (rdAn l) = l) from fun q => h5 q.1)
    unfold maxLen at hl
    go_enter Try.func25, Try.ntmps25
    go_wp2
    refine bodyPost_ret (v := .tuple #[.agg #[.int .i64 0, .int .i64 0, .slice none 0 0, .int .i64 0, .int .i64 0, .int .i64 0, .int .i64 0, .int .i64 0, .int .i64 0, .int .i64 0, .slice none 0 0], .int .i64 3]) (by simp [results, Try.results25, go_sem]) rfl ?_
    refine dec_zero l w _ KE.out ?_
    exact (Below.refl _ _).alloc (Nat.le_refl _) _

end Go.Proofs.Ytljllfopgpmekab
