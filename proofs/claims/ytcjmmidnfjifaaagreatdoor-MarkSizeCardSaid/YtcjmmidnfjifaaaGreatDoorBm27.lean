/- Proved here: texts joined: PickRef, PcFew, ZlFew, ZlSmall, ConMark. -/
import Derived.Test.YtcjmmidnfjifaaaGreatDoorBm04
import Derived.Test.YtcjmmidnfjifaaaGreatDoorBm21
import Derived.Test.YtcjmmidnfjifaaaGreatDoorBm26
import Derived.Deep.DeepCutAuto
import Derived.Outline
/- Proved here: contracts of the document's own answers of layer 7: Few, Clean, Same. -/
namespace Go.Proofs.YtcjmmidnfjifaaaGreatDoor
open Go.RowKit
set_option linter.unusedVariables false

/-- Few texts in a piece; at most 12 such pieces. -/
def fewP1 (p : Pc) : Bool := fewB p.2.1 20 && fewT p.2.2.1 p.2.2.2
def fewP (ps : List Pc) : Bool := decide (ps.length ≤ 12) && (ps.take 13).all fewP1
theorem fewP_parts {ps : List Pc} (h : fewP ps = true) : ps.length ≤ 12 ∧ ∀ p ∈ ps, fewP1 p = true := by
  unfold fewP at h
  rw [Bool.and_eq_true, decide_eq_true_eq] at h
  refine ⟨h.1, fun p hp => ?_⟩
  have := h.2
  rw [List.take_of_length_le (by omega), List.all_eq_true] at this
  exact this p hp
theorem fewP_step {ps : List Pc} {k : Nat} {p : Pc} (hq : (ps.take k).all fewP1 = true) (ht : ps[k]? = some p) (h : fewP1 p = true) : (ps.take (k + 1)).all fewP1 = true := by
  rw [take_at ht, List.all_append, hq]
  simp [h]
theorem fewP_no {ps : List Pc} {k : Nat} {p : Pc} (hk : k < 13) (ht : ps[k]? = some p) (h : fewP1 p = false) : false = fewP ps := by
  unfold fewP
  have hm : p ∈ ps.take 13 := List.mem_of_getElem? (i := k) (by rw [List.getElem?_take]; rw [if_pos hk]; exact ht)
  rw [eq_comm, Bool.and_eq_false_iff]
  right
  rw [Bool.eq_false_iff, ne_eq, List.all_eq_true]
  intro ha
  rw [ha p hm] at h
  cases h
theorem fewP_end {ps : List Pc} {k n : Nat} (hl : ps.length = n) (h : k = n ∨ 13 ≤ k ∧ k < n) (hq : (ps.take k).all fewP1 = true) : decide (n ≤ 12) = fewP ps := by
  unfold fewP
  rw [hl]
  by_cases hm : n ≤ 12
  · have : k = n := by omega
    subst this
    rw [List.take_of_length_le (by omega)] at hq
    rw [List.take_of_length_le (by omega), hq]
    simp
  · simp [hm]

set_option maxRecDepth 100000 in
set_option maxHeartbeats 2000000 in
theorem pFew_any (A : Option Addr) (n c B : Nat) (vs : List PcV) (ps : List Pc) (w : World) (hn : n ≤ maxLen) (hA : Pcs w B A n vs ps) :
    Calls Tryz.prog 9 #[.slice A n c] w fun e w' => e = .returned (.bool (fewP ps)) ∧ ∃ q, w' = w.drewN q := by
  have hl := hA.len
  have hAh := Lib.hid hA
  unfold maxLen at hn
  clear hA
  go_enter Tryz.func9, Tryz.ntmps9
  go_wp2
  go_loopw [3] (fun i wr => ∃ k : Nat, k ≤ n ∧ k ≤ 13 ∧ i = .int .i64 k ∧ Hid ((ps.take k).all fewP1 = true) ∧ Hid (∃ q, wr = w.drewN q)) (fun i _ => n - (intOf i).toNat)
  case atStart => exact ⟨0, Nat.zero_le _, Nat.zero_le _, rfl, Lib.hid rfl, Lib.hid ⟨0, rfl⟩⟩
  case round =>
    obtain ⟨k, hk, hk13, rfl, hq, hw⟩ := hrel
    obtain ⟨wo, rfl⟩ : ∃ wo : World, wo = wr := ⟨_, rfl⟩
    have hAo : Hid (Pcs wo B A n vs ps) := Lib.hid (by obtain ⟨q, rfl⟩ := hw.out; exact hAh.out.drewN q)
    by_cases hlt : k < n
    · by_cases hm : k < 13
      · obtain ⟨b, o, cf, At, nt, ct, Ab, nb, cb, As, ns, cs, t, bs, ss, rfl, hb, hv, hp, k1, k2, k3, k4, j1, j2, j3, j4, rr, j5⟩ := hAo.out.at_ (k := k) hlt
        have i1 : (0 : Int) ≤ (k : Int) := by omega
        have i2 : (k : Int) < (n : Int) := by omega
        have i3 : (k : Int) < 13 := by omega
        obtain ⟨f1, hf1⟩ : ∃ f1, fewB t 20 = f1 := ⟨_, rfl⟩
        obtain ⟨f2, hf2⟩ : ∃ f2, fewT bs ss = f2 := ⟨_, rfl⟩
        have hF1 : Hid (∀ j, Calls Tryz.prog 22 #[.slice At nt ct, .int .i64 20] (wo.drewN j) fun e w' => e = .returned (.bool f1) ∧ ∃ q, w' = (wo.drewN j).drewN q) := Lib.hid (fun j => by
          rw [← hf1]
          exact (Few_any At nt ct 20 B t (wo.drewN j) (Nat.le_trans j1.1 j1.2.1) (by omega) (j1.2.2.drewN j)).mono fun e w' h => ⟨h.1, 0, h.2.symm⟩)
        have hF2 : Hid (∀ j, Calls Tryz.prog 23 #[.slice Ab nb cb, .slice As ns cs] (wo.drewN j) fun e w' => e = .returned (.bool f2) ∧ ∃ q, w' = (wo.drewN j).drewN q) := Lib.hid (fun j => by
          rw [← hf2]
          exact (rFew_any Ab nb cb B bs As ns cs B rr ss (wo.drewN j) (Nat.le_trans j2.1 j2.2.1) (Nat.le_trans j3 j4) (j2.2.2.drewN j) (j5.drewN j)).mono fun e w' h => ⟨h.1, 0, h.2⟩)
        have h1 : Hid (fewP1 (cf, t, bs, ss) = (f1 && f2)) := Lib.hid (by unfold fewP1; rw [← hf1, ← hf2])
        have hph := Lib.hid hp
        clear hv hp hf1 hf2 j1 j2 j5
        cases f1
        · go_wp2
          go_quiet ((first | (go_at_call 22; exact Calls.quiet_of (hF1.out _)) | (go_at_call 23; exact Calls.quiet_of (hF2.out _))))
          obtain ⟨z1, rfl⟩ : ∃ z1, z1 = nq := ⟨_, rfl⟩
          go_wp2
          go_ret
          exact ⟨ret_bool (fewP_no hm hph.out h1.out), by obtain ⟨q, rfl⟩ := hw.out; exact ⟨_, World.drewN_drewN _ _ _⟩⟩
        · cases f2
          · go_wp2
            go_quiet ((first | (go_at_call 22; exact Calls.quiet_of (hF1.out _)) | (go_at_call 23; exact Calls.quiet_of (hF2.out _))))
            obtain ⟨z1, rfl⟩ : ∃ z1, z1 = nq := ⟨_, rfl⟩
            go_wp2
            go_ret
            exact ⟨ret_bool (fewP_no hm hph.out h1.out), by obtain ⟨q, rfl⟩ := hw.out; exact ⟨_, World.drewN_drewN _ _ _⟩⟩
          · go_wp2
            go_quiet ((first | (go_at_call 22; exact Calls.quiet_of (hF1.out _)) | (go_at_call 23; exact Calls.quiet_of (hF2.out _))))
            obtain ⟨z1, rfl⟩ : ∃ z1, z1 = nq := ⟨_, rfl⟩
            go_wp2
            go_roundw
            case rel => exact ⟨k + 1, by omega, by omega, by go_num, Lib.hid (fewP_step hq.out hph.out h1.out), Lib.hid (by obtain ⟨q, rfl⟩ := hw.out; exact ⟨_, World.drewN_drewN _ _ _⟩)⟩
            case measure => simp [intOf]; omega
      · have hend := Lib.hid (fewP_end hl (.inr ⟨by omega, hlt⟩) hq.out)
        go_wp2
        go_ret
        exact ⟨ret_bool (by rw [← hend.out]; simp; try omega), hw.out⟩
    · obtain rfl : k = n := by omega
      have hend := Lib.hid (fewP_end hl (.inl rfl) hq.out)
      go_wp2
      all_goals
        go_ret
        exact ⟨ret_bool (by rw [← hend.out]; simp; try omega), hw.out⟩
end Go.Proofs.YtcjmmidnfjifaaaGreatDoor
/- Proved here, without conditions on the program: of few texts in pieces: how many are chosen, how many there are. -/
namespace Go.Proofs.YtcjmmidnfjifaaaGreatDoor
open Go.RowKit
set_option linter.unusedVariables false

/-- Pieces that came in. -/
def ArgPcs (w : World) (A : Option Addr) (n c : Nat) (vs : List PcV) (ps : List Pc) : Prop := n ≤ c ∧ c ≤ maxLen ∧ Pcs w w.heap.size A n vs ps

theorem fewP1_text {p : Pc} (h : fewP1 p = true) : p.2.1.length ≤ 20 := by
  unfold fewP1 at h
  rw [Bool.and_eq_true] at h
  exact fewB_len h.1
theorem fewP1_side {p : Pc} (h : fewP1 p = true) : ∀ s ∈ p.2.2.2, s.length ≤ 20 := by
  unfold fewP1 at h
  rw [Bool.and_eq_true] at h
  exact fun s hs => (fewT_parts h.2).2.2 s hs
theorem chosen_few {p : Pc} (z : Int) (h : fewP1 p = true) : (chosen z p).length ≤ 20 := by
  unfold chosen
  split
  · split
    · cases hs : p.2.2.2[(z - 1).toNat]? with
      | none => simp
      | some s => exact fewP1_side h s (List.mem_of_getElem? hs)
    · simp
  · exact fewP1_text h
theorem choose_few (z : Int) : ∀ {ps : List Pc}, (∀ p ∈ ps, fewP1 p = true) → (choose ps z).length ≤ ps.length * 20
  | [], _ => by simp [choose]
  | p :: ps, h => by
    have h1 := choose_few z (ps := ps) fun q hq => h q (List.mem_cons_of_mem _ hq)
    have h2 := chosen_few z (h p (List.mem_cons_self ..))
    unfold choose at h1 ⊢
    rw [List.flatMap_cons, List.length_append, List.length_cons]
    omega
theorem smallN_few {ps : List Pc} (h : ∀ p ∈ ps, fewP1 p = true) : smallN ps := by
  intro p hp
  have h1 := h p hp
  unfold fewP1 at h1
  rw [Bool.and_eq_true] at h1
  obtain ⟨a1, a2, a3⟩ := fewT_parts h1.2
  refine ⟨by omega, fun d hd => ?_⟩
  rcases List.mem_cons.1 hd with rfl | hd
  · omega
  · have := a3 d hd
    omega
theorem sumT_few : ∀ {ps : List Pc}, (∀ p ∈ ps, fewP1 p = true) → sumT ps ≤ ps.length * 20
  | [], _ => by simp [sumT]
  | p :: ps, h => by
    have h1 := sumT_few (ps := ps) fun q hq => h q (List.mem_cons_of_mem _ hq)
    have h2 := fewP1_text (h p (List.mem_cons_self ..))
    rw [sumT_cons, List.length_cons]
    omega
theorem joinT_len (t : Txs) : ∀ r : List Pc, (joinT t r).length ≤ r.length + 1
  | [] => by by_cases h : t = [] <;> simp [joinT, h]
  | (false, x, b, s) :: r => by simp [joinT]
  | (true, x, b, s) :: r => by by_cases h : t = [] <;> simp [joinT, h]
theorem normal_len : ∀ ps : List Pc, (normal ps).length ≤ ps.length
  | [] => by simp [normal]
  | (true, _, b, s) :: l => by simpa [normal] using normal_len l
  | (false, t, _, _) :: l => by
    have h1 := normal_len l
    have h2 := joinT_len t (normal l)
    rw [normal, List.length_cons]
    omega
end Go.Proofs.YtcjmmidnfjifaaaGreatDoor
/- Proved here, without conditions: few pieces are neither many nor long. -/
namespace Go.Proofs.YtcjmmidnfjifaaaGreatDoor
open Go.RowKit
set_option linter.unusedVariables false

/-- Few texts: neither many nor long. -/
theorem few_small {ps : List Pc} (h : fewP ps = true) : smallZ ps := by
  obtain ⟨h1, h2⟩ := fewP_parts h
  refine ⟨by omega, fun p hp => ?_⟩
  have h3 := h2 p hp
  have h4 := fewP1_text h3
  unfold fewP1 at h3
  rw [Bool.and_eq_true] at h3
  obtain ⟨a1, a2, a3⟩ := fewT_parts h3.2
  exact ⟨by omega, by omega, fun d hd => by have := a3 d hd; omega, by omega⟩
theorem zeal_len {ps : List Pc} (h : smallZ ps) : (zealD ps).length ≤ 300 := by
  have h1 := (flat_sum (ps := ps) h.2).2
  have h2 := len_normal (ps.flatMap trimD)
  have h3 := h.1
  unfold zealD
  omega
end Go.Proofs.YtcjmmidnfjifaaaGreatDoor
/- Proved here, without conditions: of few pieces what Zeal tells is neither many nor long. -/
namespace Go.Proofs.YtcjmmidnfjifaaaGreatDoor
open Go.RowKit
set_option linter.unusedVariables false

theorem text_joinT (t : Txs) : ∀ {r : List Pc} {q : Pc}, (∀ p ∈ r, p.1 = false → p = tPc p.2.1) → q ∈ joinT t r → q.1 = false → q = tPc q.2.1
  | [], q, _, h, _ => by
    have h : q ∈ (if t = [] then [] else [tPc t] : List Pc) := h
    by_cases e : t = []
    · rw [if_pos e] at h; cases h
    · rw [if_neg e, List.mem_singleton] at h
      subst h
      rfl
  | (false, x, b, s) :: r, q, hr, h, hc => by
    rcases List.mem_cons.1 h with rfl | h
    · have := hr (false, x, b, s) (List.mem_cons_self ..) rfl
      simp [tPc] at this
      obtain ⟨rfl, rfl⟩ := this
      rfl
    · exact hr q (List.mem_cons_of_mem _ h) hc
  | (true, x, b, s) :: r, q, hr, h, hc => by
    have h : q ∈ (if t = [] then (true, x, b, s) :: r else tPc t :: (true, x, b, s) :: r) := h
    by_cases e : t = []
    · rw [if_pos e] at h; exact hr q h hc
    · rw [if_neg e] at h
      rcases List.mem_cons.1 h with rfl | h
      · rfl
      · exact hr q h hc
theorem text_normal : ∀ {l : List Pc} {q : Pc}, q ∈ normal l → q.1 = false → q = tPc q.2.1
  | (true, t, b, s) :: l, q, h, hc => by
    rcases List.mem_cons.1 h with rfl | h
    · cases hc
    · exact text_normal h hc
  | (false, t, b, s) :: l, q, h, hc => text_joinT t (fun p hp hc => text_normal hp hc) h hc
/-- A conflict that Trim leaves: its base, and its sides, are no longer. -/
theorem conf_small {p q : Pc} (h : smallP p) (hq : q ∈ trimD p) (hc : q.1 = true) : q.2.2.2.length ≤ 1000 ∧ (∀ d ∈ q.2.2.2, d.length ≤ 5000) ∧ q.2.2.1.length ≤ 10000 := by
  obtain ⟨cf, t, bs, ss⟩ := p
  obtain ⟨h1, h2, h3, h4⟩ := h
  dsimp only at h1 h2 h3 h4
  have one : q ∈ normal [(cf, t, bs, ss)] → q.2.2.2.length ≤ 1000 ∧ (∀ d ∈ q.2.2.2, d.length ≤ 5000) ∧ q.2.2.1.length ≤ 10000 := fun hq => by
    obtain ⟨t', ht⟩ := conf_normal hc hq
    simp at ht
    obtain ⟨rfl, -, e1, e2⟩ := ht
    rw [e1, e2]
    exact ⟨h2, h3, h4⟩
  cases cf with
  | false => exact one hq
  | true =>
    cases ss with
    | nil => exact one hq
    | cons f ds =>
      obtain ⟨t', ht⟩ := conf_normal hc (show q ∈ normal (trimL bs f (f :: ds)) from hq)
      obtain ⟨-, e⟩ := trimL_conf (List.mem_cons_self ..) ht rfl
      simp only [cPc, Prod.mk.injEq] at e
      obtain ⟨-, -, e1, e2⟩ := e
      rw [e1, e2]
      refine ⟨by rw [List.length_map]; exact h2, fun d hd => ?_, h4⟩
      obtain ⟨d', hd', rfl⟩ := List.mem_map.1 hd
      have := h3 d' hd'
      unfold leftD
      rw [List.length_take, List.length_drop]
      omega
theorem small_zeal {ps : List Pc} (h : smallZ ps) (hn : ps.length ≤ 30) (hs : ps.length * 10000 ≤ 5000 ∨ sumT (ps.flatMap trimD) ≤ 5000) : smallZ (zealD ps) := by
  have hsum : sumT (ps.flatMap trimD) ≤ 5000 := by
    rcases hs with hs | hs
    · exact Nat.le_trans (flat_sum h.2).1 hs
    · exact hs
  refine ⟨?_, fun q hq => ?_⟩
  · have h1 := (flat_sum (ps := ps) h.2).2
    have h2 := len_normal (ps.flatMap trimD)
    unfold zealD
    omega
  · unfold zealD at hq
    have hm := sumT_mem hq
    have hn2 := sumT_normal (ps.flatMap trimD)
    cases hc : q.1 with
    | false =>
      have e := text_normal hq hc
      refine ⟨by omega, ?_⟩
      rw [e]
      exact ⟨by simp [tPc], fun d hd => by simp [tPc] at hd, by simp [tPc]⟩
    | true =>
      obtain ⟨t, ht⟩ := conf_normal hc hq
      obtain ⟨p, hp, hm2⟩ := List.mem_flatMap.1 ht
      exact ⟨by omega, conf_small (q := (true, t, q.2.2.1, q.2.2.2)) (h.2 p hp) hm2 rfl⟩
/-- Few pieces made smaller hold few texts. -/
theorem few_sum : ∀ {ps : List Pc}, (∀ p ∈ ps, fewP1 p = true) → sumT (ps.flatMap trimD) ≤ ps.length * 40
  | [], _ => by simp [sumT]
  | p :: ps, h => by
    have h1 := few_sum (ps := ps) fun q hq => h q (List.mem_cons_of_mem _ hq)
    have h2 := h p (List.mem_cons_self ..)
    have e : sumT (trimD p ++ ps.flatMap trimD) = sumT (trimD p) + sumT (ps.flatMap trimD) := by simp [sumT]
    rw [List.flatMap_cons, List.length_cons, e]
    have h3 : sumT (trimD p) ≤ 40 := by
      obtain ⟨cf, t, bs, ss⟩ := p
      have ht := fewP1_text h2
      have hsd := fewP1_side h2
      dsimp only at ht hsd
      have one : sumT (normal [(cf, t, bs, ss)]) ≤ 40 := by
        have := sumT_normal [(cf, t, bs, ss)]
        have e2 : sumT [(cf, t, bs, ss)] = t.length := by simp [sumT]
        omega
      cases cf with
      | false => exact one
      | true =>
        cases ss with
        | nil => exact one
        | cons f ds =>
          show sumT (normal (trimL bs f (f :: ds))) ≤ 40
          have a1 := sumT_normal (trimL bs f (f :: ds))
          have a2 := (trimL_sum (base := bs) (f := f) (ds := f :: ds)).1
          have a3 := hsd f (List.mem_cons_self ..)
          omega
    omega
theorem few_zeal {ps : List Pc} (h : fewP ps = true) : smallZ (zealD ps) ∧ sumT (zealD ps) ≤ 480 := by
  obtain ⟨h1, h2⟩ := fewP_parts h
  have h3 := few_sum h2
  have h4 := sumT_normal (ps.flatMap trimD)
  refine ⟨small_zeal (few_small h) (by omega) (.inr (by omega)), ?_⟩
  unfold zealD
  omega
theorem smallN_of {ps : List Pc} (h : ∀ p ∈ ps, smallP p) : smallN ps := fun p hp => by
  obtain ⟨-, h1, h2, h3⟩ := h p hp
  refine ⟨h1, fun d hd => ?_⟩
  rcases List.mem_cons.1 hd with rfl | hd
  · omega
  · have := h2 d hd; omega
theorem few_part {ps qs : List Pc} (h : fewP ps = true) (hl : qs.length ≤ ps.length) (hm : ∀ p ∈ qs, p ∈ ps) : fewP qs = true := by
  obtain ⟨h1, h2⟩ := fewP_parts h
  unfold fewP
  rw [Bool.and_eq_true, decide_eq_true_eq, List.all_eq_true]
  exact ⟨by omega, fun p hp => h2 p (hm p (List.mem_of_mem_take hp))⟩
theorem own_empty4 (w : World) (base : Nat) (e : TypeId) (h : base ≤ w.heap.size) : (w.alloc (.cells #[] e)).ownsRow base e 4 (.slice (some ⟨w.heap.size, 0, none⟩) 0 0) 0 [] :=
  ⟨rfl, .inr ⟨w.heap.size, 0, #[], rfl, h, heap_alloc_new w _, Nat.le_refl _, Nat.zero_le _, rfl, rfl⟩⟩
end Go.Proofs.YtcjmmidnfjifaaaGreatDoor
/- What the statements ask of package mark; few pieces are small ones. -/
namespace Go.Proofs.YtcjmmidnfjifaaaGreatDoor
open Go.RowKit
set_option linter.unusedVariables false
set_option maxRecDepth 100000

/-- Texts that a call has made or was handed, and a number. -/
def PrintA (w w' : World) (e : Ending) (xs : Txs) (no : Int) : Prop := ∃ A n c, e = .returned (.tuple #[.slice A n c, .int .i64 no]) ∧ TxR w' w'.heap.size (A, n, c) xs ∧ Below w.heap.size w w'
theorem PrintOut.out {w w' : World} {e : Ending} {xs : Txs} {no : Int} (h : PrintOut w w' e xs no) : PrintA w w' e xs no := by
  obtain ⟨v, rfl, hv⟩ := h
  obtain ⟨A, c, rfl, h1, h2, h3⟩ := own_slice hv.own
  exact ⟨A, _, c, rfl, ⟨h1, h2, h3⟩, hv.below⟩
/-- The contract of mark.Print. -/
def MarkPrintOk : Prop := ∀ (A : Option Addr) (n c : Nat) (vs : List PcV) (ps : List Pc) (style long : Int) (w : World), n ≤ c → c ≤ maxLen → inR64 style → inR64 long → smallW ps → Pcs w w.heap.size A n vs ps →
    Calls Tryz.prog 10 #[.slice A n c, .int .i64 style, .int .i64 long] w fun e w' => PrintA w w' e (printM ps style long) (wrongM ps style long)

theorem fewB_txt {l : Txs} {k : Nat} (h : fewB l k = true) : ∀ s ∈ l, s.length ≤ 1000000 := fun s hs => by
  unfold fewB at h
  rw [Bool.and_eq_true, decide_eq_true_eq, List.take_of_length_le (by have := h; simp at this; omega), List.all_eq_true] at h
  have := h.2 s hs
  simp at this
  omega
theorem few_txt {ps : List Pc} (h : fewP ps = true) : ∀ d ∈ listsP ps, ∀ s ∈ d, s.length ≤ 1000000 := fun d hd s hs => by
  obtain ⟨p, hp, hx⟩ := mem_lists.1 hd
  have h3 := (fewP_parts h).2 p hp
  unfold fewP1 at h3
  rw [Bool.and_eq_true] at h3
  obtain ⟨h4, h5⟩ := h3
  obtain ⟨-, k1, -⟩ := fewT_parts h5
  unfold fewT at h5
  rw [Bool.and_eq_true, Bool.and_eq_true] at h5
  rcases hx with rfl | rfl | hx
  · exact fewB_txt h4 s hs
  · exact fewB_txt h5.1.1 s hs
  · have h6 := h5.2
    rw [List.take_of_length_le (by omega), List.all_eq_true] at h6
    exact fewB_txt (h6 d hx) s hs
theorem few_W {ps : List Pc} (h : fewP ps = true) : smallW ps := by
  have ht := few_txt h
  refine ⟨⟨few_small h, ht⟩, (few_zeal h).1, fun d hd s hs => ?_⟩
  obtain ⟨d', hd', hs'⟩ := List.mem_flatten.1 (lines_zeal (List.mem_flatten.2 ⟨d, hd, hs⟩))
  exact ht d' hd' s hs'
end Go.Proofs.YtcjmmidnfjifaaaGreatDoor
