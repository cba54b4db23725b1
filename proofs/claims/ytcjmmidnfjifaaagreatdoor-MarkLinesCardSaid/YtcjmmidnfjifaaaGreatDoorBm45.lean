/- Proved here: texts joined: MkLn, MkMay, MkLawB. -/
import Derived.Test.YtcjmmidnfjifaaaGreatDoorBm27
import Derived.Test.YtcjmmidnfjifaaaGreatDoorBm28
import Derived.Test.YtcjmmidnfjifaaaGreatDoorBm44
import Derived.Deep.DeepCutAuto
import Derived.Outline
/- Proved here, without conditions on the program: what is printed, reckoned piece by piece (layer 12). -/
namespace Go.Proofs.YtcjmmidnfjifaaaGreatDoor
set_option linter.unusedVariables false
set_option maxRecDepth 100000

def sumP (f : Pc → Nat) (ps : List Pc) : Nat := (ps.map f).sum
theorem sumP_take {f : Pc → Nat} {ps : List Pc} {i : Nat} {p : Pc} (h : ps[i]? = some p) : sumP f (ps.take (i + 1)) = sumP f (ps.take i) + f p := by
  unfold sumP
  rw [take_at h, List.map_append, List.sum_append]
  simp
theorem sumP_cons {f : Pc → Nat} {ps : List Pc} {p : Pc} : sumP f (p :: ps) = f p + sumP f ps := by
  unfold sumP
  rw [List.map_cons, List.sum_cons]
section
variable {d : Txs} {m lg : Nat} {style : Int}
theorem closed_txt (h : ∀ t ∈ d, t.length ≤ m) : ∀ t ∈ closed d, t.length ≤ m + 1 := by
  unfold closed
  split
  · rename_i s hs
    split
    · exact fun t ht => Nat.le_succ_of_le (h t ht)
    · intro t ht
      rcases List.mem_append.1 ht with ht | ht
      · exact Nat.le_succ_of_le (h t (List.dropLast_subset _ ht))
      · simp at ht
        subst ht
        have := h s (List.mem_of_getLast? hs)
        simp
        exact this
  · exact fun t ht => Nat.le_succ_of_le (h t ht)
theorem mark_len {sg : UInt8} {ah : Txs} {lab : Tx} : (markT sg lg ah lab).length ≤ lg + 2 + lab.length := by
  unfold markT
  simp only [List.length_append, List.length_replicate, List.length_singleton]
  split <;> simp <;> omega
theorem sides_txt : ∀ {ds : List Txs} {ah : Txs} {n : Nat}, (∀ d ∈ ds, ∀ t ∈ d, t.length ≤ m) → ∀ t ∈ sidesM lg ah n ds, t.length ≤ m + lg + 20
  | [], ah, n, h, t, ht => by
    unfold sidesM at ht
    rw [List.mem_singleton] at ht
    have := mark_len (lg := lg) (sg := 62) (ah := ah) (lab := [])
    rw [ht]
    simp at this
    omega
  | d :: ds, ah, n, h, t, ht => by
    unfold sidesM at ht
    rcases List.mem_cons.1 ht with rfl | ht
    · have := mark_len (lg := lg) (sg := 61) (ah := ah) (lab := 32 :: numT n)
      have h2 : (32 :: numT n).length ≤ 3 := by unfold numT; split <;> simp
      omega
    · rcases List.mem_append.1 ht with ht | ht
      · have := closed_txt (h d (List.mem_cons_self ..)) t ht
        omega
      · exact sides_txt (fun e he => h e (List.mem_cons_of_mem _ he)) t ht
theorem lines_txt {ps : List Pc} (h : ∀ x ∈ listsP ps, ∀ t ∈ x, t.length ≤ m) : ∀ t ∈ linesM style lg ps, t.length ≤ m + lg + 20 := by
  intro t ht
  unfold linesM at ht
  obtain ⟨p, hp, ht⟩ := List.mem_flatMap.1 ht
  have h1 := h p.2.1 (mem_lists.2 ⟨p, hp, .inl rfl⟩)
  have h2 := h p.2.2.1 (mem_lists.2 ⟨p, hp, .inr (.inl rfl)⟩)
  have h3 : ∀ x ∈ p.2.2.2, ∀ t ∈ x, t.length ≤ m := fun x hx => h x (mem_lists.2 ⟨p, hp, .inr (.inr hx)⟩)
  unfold pieceM at ht
  split at ht
  · cases hs : p.2.2.2 with
    | nil => rw [hs] at ht; unfold confM at ht; cases ht
    | cons f ds =>
      rw [hs] at h3 ht
      have k1 := closed_txt (h3 f (List.mem_cons_self ..))
      have k2 := closed_txt h2
      have k3 := fun ah n => sides_txt (lg := lg) (ah := ah) (n := n) (fun e he => h3 e (List.mem_cons_of_mem _ he))
      have k4 := mark_len (lg := lg) (sg := 60) (ah := []) (lab := [32, 49])
      have k5 := mark_len (lg := lg) (sg := 124) (ah := f) (lab := [32, 98, 97, 115, 101])
      simp only [List.length_cons, List.length_nil] at k4 k5
      rw [conf_split] at ht
      split at ht
      · simp only [List.mem_append, List.mem_singleton] at ht
        rcases ht with (rfl | ht) | ht
        · omega
        · have := k1 t ht; omega
        · exact k3 _ _ t ht
      · simp only [List.mem_append, List.mem_singleton] at ht
        rcases ht with (((rfl | ht) | rfl) | ht) | ht
        · omega
        · have := k1 t ht; omega
        · omega
        · have := k2 t ht; omega
        · exact k3 _ _ t ht
  · have := h1 t ht
    omega
theorem normal_conf_text : ∀ {l : List Pc} {q : Pc}, q ∈ normal l → q.1 = true → q.2.1 = []
  | [], q, h, _ => by simp [normal] at h
  | (true, t, b, s) :: l, q, h, hc => by
    rw [normal] at h
    rcases List.mem_cons.1 h with rfl | h
    · rfl
    · exact normal_conf_text h hc
  | (false, t, b, s) :: l, q, h, hc => normal_conf_text (conf_join hc t h) hc
/-- How many marks, how many lines. -/
theorem lines_cnt {ks : List Pc} (hn : ks = normal ks) (hs : ∀ p ∈ ks, p.1 = true → p.2.2.2 ≠ []) (hr : ∀ x ∈ listsP ks, ∀ t ∈ x, runN t < lg) : cntM lg (linesM style lg ks) = sumP (marksP style) ks ∧ (linesM style lg ks).length = sumP (wantP style) ks + sumP (marksP style) ks := by
  have hc : ∀ p ∈ ks, p.1 = true → p.2.1 = [] := fun p hp h => normal_conf_text (by rw [← hn]; exact hp) h
  have ht : ∀ p ∈ ks, p.1 = false → p.2.2.2 = [] := fun p hp h => by rw [text_normal (by rw [← hn]; exact hp) h]; rfl
  have hx : ∀ p ∈ ks, ∀ d ∈ p.2.1 :: p.2.2.1 :: p.2.2.2, ∀ t ∈ d, runN t < lg := fun p hp d hd => hr d (mem_lists.2 ⟨p, hp, by simpa only [List.mem_cons] using hd⟩)
  clear hn hr
  induction ks with
  | nil => exact ⟨rfl, rfl⟩
  | cons p ks ih =>
    obtain ⟨i1, i2⟩ := ih (fun q hq => hs q (List.mem_cons_of_mem _ hq)) (fun q hq => hc q (List.mem_cons_of_mem _ hq)) (fun q hq => ht q (List.mem_cons_of_mem _ hq)) (fun q hq => hx q (List.mem_cons_of_mem _ hq))
    obtain ⟨j1, j2⟩ := piece_cnt (long := lg) (style := style) (p := p) (fun h => ⟨hc p (List.mem_cons_self ..) h, hs p (List.mem_cons_self ..) h⟩) (ht p (List.mem_cons_self ..)) (hx p (List.mem_cons_self ..))
    unfold linesM at *
    rw [List.flatMap_cons, cnt_append, List.length_append, sumP_cons, sumP_cons]
    omega
end
end Go.Proofs.YtcjmmidnfjifaaaGreatDoor
/- Proved here: the contract of the document's own answer of layer 12: May. -/
namespace Go.Proofs.YtcjmmidnfjifaaaGreatDoor
open Go.RowKit
set_option linter.unusedVariables false
set_option maxRecDepth 100000

/-- May pieces be printed? -/
def mayM (ps : List Pc) (style long : Int) : Bool := fewP ps && (decide (long ≤ 40) && decide (wrongM ps style long = 0))
theorem mayM_parts {ps : List Pc} {style long : Int} (h : mayM ps style long = true) : fewP ps = true ∧ long ≤ 40 ∧ wrongM ps style long = 0 := by
  unfold mayM at h
  rw [Bool.and_eq_true, Bool.and_eq_true, decide_eq_true_eq, decide_eq_true_eq] at h
  exact h

set_option maxHeartbeats 4000000 in
theorem rMkMay_any (A : Option Addr) (n c : Nat) (vs : List PcV) (ps : List Pc) (style long : Int) (w : World) (hnc : n ≤ c) (hcm : c ≤ maxLen) (hst : inR64 style) (hlg : inR64 long) (hA : Pcs w w.heap.size A n vs ps) :
    Calls Tryz.prog 13 #[.slice A n c, .int .i64 style, .int .i64 long] w fun e w' => e = .returned (.bool (mayM ps style long)) ∧ Below w.heap.size w w' := by
  obtain ⟨fm, hfm⟩ : ∃ fm, fewP ps = fm := ⟨_, rfl⟩
  have hF := Lib.hid (pFew_any A n c w.heap.size vs ps w (Nat.le_trans hnc hcm) hA)
  rw [hfm] at hF
  cases fm
  · have hm : Hid (mayM ps style long = false) := Lib.hid (by unfold mayM; rw [hfm]; rfl)
    clear hA hfm hst hlg
    go_enter Tryz.func13, Tryz.ntmps13
    go_wp2_with (go_at_call 9; refine hF.out.mono ?_; rintro e w2 ⟨rfl, q2, rfl⟩)
    go_ret
    exact ⟨by rw [hm.out]; rfl, below_drewN (Below.refl _ _) q2⟩
  have hm : Hid (mayM ps style long = (decide (long ≤ 40) && decide (wrongM ps style long = 0))) := Lib.hid (by unfold mayM; rw [hfm]; rfl)
  by_cases h40 : long ≤ 40
  · have hsm := few_W hfm
    have hW := Lib.hid (fun (W : World) (hb : Below w.heap.size w W) => rWrong_any A n c vs ps style long W hnc hcm hst hlg hsm (hA.up hb))
    obtain ⟨no, hno⟩ : ∃ no, wrongM ps style long = no := ⟨_, rfl⟩
    rw [hno] at hW hm
    rw [decide_eq_true h40, Bool.true_and] at hm
    clear hA hfm hsm hno hst hlg
    by_cases hz : no = 0
    case' pos =>
      subst hz
    case' neg =>
      have hnb : (no == 0) = false := by rw [beq_eq_false_iff_ne]; exact hz
    all_goals
      go_enter Tryz.func13, Tryz.ntmps13
      go_wp2_with (first
        | (go_at_call 9; refine hF.out.mono ?_; rintro e w2 ⟨rfl, q2, hw2⟩; have hB2 : Hid (Below w.heap.size w w2) := Lib.hid (by rw [hw2]; exact below_drewN (Below.refl _ _) q2); clear hw2)
        | (go_at_call 32; refine (hW.out _ hB2.out).mono ?_; rintro e w3 ⟨rfl, q3⟩; have hB3 := Lib.hid (hB2.out.trans (q3.mono hB2.out.size)); clear q3))
      go_ret
      exact ⟨by rw [hm.out]; simp_all, hB3.out⟩
  · rw [decide_eq_false h40, Bool.false_and] at hm
    clear hA hfm hst hlg
    go_enter Tryz.func13, Tryz.ntmps13
    go_wp2_with (go_at_call 9; refine hF.out.mono ?_; rintro e w2 ⟨rfl, q2, rfl⟩)
    go_ret
    exact ⟨by rw [hm.out]; rfl, below_drewN (Below.refl _ _) q2⟩
end Go.Proofs.YtcjmmidnfjifaaaGreatDoor
/- Proved here: what the statement MarkZeal says, by the contract of package mark. -/
namespace Go.Proofs.YtcjmmidnfjifaaaGreatDoor
open Go.RowKit
set_option linter.unusedVariables false
set_option maxRecDepth 100000

/-- The zealous style is the style with bases. -/
theorem lines_style (long : Nat) (l : List Pc) : linesM 3 long l = linesM 2 long l := by
  unfold linesM
  congr 1
theorem small_zeal2 {ps : List Pc} (h : smallW ps) : smallW (zealD ps) := ⟨h.2, by rw [zeal_twice]; exact h.2⟩
/-- The document's two answers of texts that are the same are the same. -/
def SameF (xs : Txs) : Prop := ∀ (A1 A2 : Option Addr) (n1 c1 n2 c2 : Nat) (W : World), TxR W W.heap.size (A1, n1, c1) xs → TxR W W.heap.size (A2, n2, c2) xs → Calls Tryz.prog 12 #[.slice A1 n1 c1, .slice A2 n2 c2] W fun e w' => e = .returned (.bool true) ∧ ∃ k, w' = W.drewN k
theorem sameF (xs : Txs) : SameF xs := fun A1 A2 n1 c1 n2 c2 W h1 h2 => by
  have := Same_any A1 A2 n1 n2 c1 c2 W.heap.size W.heap.size xs xs W (Nat.le_trans h1.1 h1.2.1) (Nat.le_trans h2.1 h2.2.1) h1.2.2 h2.2.2
  rwa [decide_eq_true (rfl : xs = xs)] at this

section
variable (H : MarkPrintOk)
include H

set_option maxHeartbeats 4000000 in
theorem MarkZeal_walk (A : Option Addr) (n c : Nat) (vs : List PcV) (ps : List Pc) (long : Int) (w : World) (h0 : ArgPcs w A n c vs ps) (hlg : inR64 long) :
    Calls Tryz.prog 7 #[.slice A n c, .int .i64 long] w fun e w' => e = .returned (.bool true) ∧ Below w.heap.size w w' := by
  obtain ⟨hnc, hcm, hA⟩ := h0
  have haw := Lib.hid (mkAwake_any H w)
  obtain ⟨fm, hfm⟩ : ∃ fm, mayM ps 3 long = fm := ⟨_, rfl⟩
  have hF := Lib.hid (fun (W : World) (hb : Below w.heap.size w W) => rMkMay_any A n c vs ps 3 long W hnc hcm (by unfold inR64; decide) hlg (hA.up hb))
  rw [hfm] at hF
  cases fm
  · clear hA hfm hlg
    go_enter Tryz.func7, Tryz.ntmps7
    go_wp2_with (first
      | (go_at_call 8; refine haw.out.mono ?_; rintro e w1 ⟨rfl, hb1⟩; have hB1 := Lib.hid hb1; clear hb1)
      | (go_at_call 13; refine (hF.out _ hB1.out).mono ?_; rintro e w2 ⟨rfl, q2⟩; have hB2 := Lib.hid (hB1.out.trans (q2.mono hB1.out.size)); clear q2))
    go_ret
    exact ⟨rfl, hB2.out⟩
  obtain ⟨hfew, h40, hno⟩ := mayM_parts hfm
  have hsm := few_W hfew
  have hz := zeal_right hno
  have hM := Lib.hid (fun (W : World) (hb : Below w.heap.size w W) => H A n c vs ps 3 long W hnc hcm (by unfold inR64; decide) hlg hsm (hA.up hb))
  have hN := Lib.hid (fun (A' : Option Addr) (n' c' : Nat) (vs' : List PcV) (W : World) (h1 : n' ≤ c') (h2 : c' ≤ maxLen) (h3 : Pcs W W.heap.size A' n' vs' (zealD ps)) => H A' n' c' vs' (zealD ps) 2 long W h1 h2 (by unfold inR64; decide) hlg (small_zeal2 hsm) h3)
  have hZe : Hid (∀ W, Below w.heap.size w W → Calls Tryz.prog 14 #[.slice A n c] W fun e w' => PcsLo W.heap.size W w' e (zealD ps)) := Lib.hid (fun W hW => rZeal_any W.heap.size A n c vs ps W (Nat.le_refl _) hsm.1.1 (hA.up hW))
  have e1 : printM ps 3 long = linesM 2 long.toNat (zealD ps) := by unfold printM; rw [if_pos hno, if_pos rfl, lines_style]
  have e2 : printM (zealD ps) 2 long = linesM 2 long.toNat (zealD ps) := by unfold printM; rw [if_pos hz, if_neg (by decide)]
  rw [e1, hno] at hM
  rw [e2, hz] at hN
  obtain ⟨xs, hxs⟩ : ∃ xs, linesM 2 long.toNat (zealD ps) = xs := ⟨_, rfl⟩
  rw [hxs] at hM hN
  have hSa := Lib.hid (sameF xs)
  have tok1 := trivial
  clear hA hfm hsm hxs hno hlg hz e1 e2 hfew h40
  go_enter Tryz.func7, Tryz.ntmps7
  go_wp2_with (first
    | (go_at_call 8; refine haw.out.mono ?_; rintro e w1 ⟨rfl, hb1⟩; have hB1 := Lib.hid hb1; clear hb1)
    | (go_at_call 13; refine (hF.out _ hB1.out).mono ?_; rintro e w2 ⟨rfl, q2⟩; have hB2 := Lib.hid (hB1.out.trans (q2.mono hB1.out.size)); clear q2)
    | (go_at_call 10; have _t := tok1; refine (hM.out _ hB2.out).mono ?_; rintro e w3 ⟨A1, n1, c1, rfl, q1, q2⟩; have hT1 := Lib.hid q1; have hB3 := Lib.hid (hB2.out.trans (q2.mono hB2.out.size)); clear q1 q2 tok1)
    | (go_at_call 14; refine (hZe.out _ hB3.out).mono ?_; rintro e w4 ⟨A2, n2, c2, vs2, rfl, q1, q2, q3, q4⟩; have hZ2 := Lib.hid (And.intro q1 (And.intro q2 (q3 w4 (But.refl _ _)))); have hT2 := Lib.hid (hT1.out.up q4); have hB4 := Lib.hid (hB3.out.trans (q4.mono hB3.out.size)); clear q1 q2 q3 q4)
    | (go_at_call 10; refine (hN.out A2 n2 c2 vs2 _ hZ2.out.1 hZ2.out.2.1 hZ2.out.2.2).mono ?_; rintro e w5 ⟨A3, n3, c3, rfl, q1, q2⟩; have hT3 := Lib.hid q1; have hT4 := Lib.hid (hT2.out.up q2); have hB5 := Lib.hid (hB4.out.trans (q2.mono hB4.out.size)); clear q1 q2)
    | (go_at_call 12; refine (hSa.out A1 A3 n1 c1 n3 c3 _ hT4.out hT3.out).mono ?_; rintro e w6 ⟨rfl, q6, rfl⟩))
  go_ret
  exact ⟨rfl, below_drewN hB5.out q6⟩
end
end Go.Proofs.YtcjmmidnfjifaaaGreatDoor
