/- Proved here: texts joined: PickSm, ConNormal, ZlSz. -/
import Derived.Test.YtcjmmidnfjifaaaGreatDoorBm12
import Derived.Test.YtcjmmidnfjifaaaGreatDoorBm17
import Derived.Test.YtcjmmidnfjifaaaGreatDoorBm20
import Derived.Deep.DeepCutAuto
import Derived.Outline
/- Proved here: the contract of the document's own answer of layer 7: Same. -/
namespace Go.Proofs.YtcjmmidnfjifaaaGreatDoor
open Go.RowKit
set_option linter.unusedVariables false

theorem neq_bool (a b : Bool) (W : World) : (binOp .neq 4 (.bool a) (.bool b)).run Tryz.prog W = .ok (.bool (a != b)) W := by
  cases a <;> cases b <;> go_simp
theorem psame_no {xs ys : List Pc} {k : Nat} {x y : Pc} (hx : xs[k]? = some x) (hy : ys[k]? = some y) (h : x ≠ y) : false = decide (xs = ys) := by
  rw [eq_comm, decide_eq_false_iff_not]
  rintro rfl
  rw [hx] at hy
  injection hy with hy
  exact h hy
theorem psame_yes {xs ys : List Pc} {k : Nat} {x y : Pc} (hq : xs.take k = ys.take k) (hx : xs[k]? = some x) (hy : ys[k]? = some y) (h : x = y) : xs.take (k + 1) = ys.take (k + 1) := by
  rw [take_at hx, take_at hy, hq, h]

set_option maxRecDepth 100000 in
set_option maxHeartbeats 4000000 in
theorem pSame_any (A A' : Option Addr) (n n' c c' B B' : Nat) (vs vs' : List PcV) (xs ys : List Pc) (w : World) (hn : n ≤ maxLen) (hn' : n' ≤ maxLen) (hA : Pcs w B A n vs xs) (hA' : Pcs w B' A' n' vs' ys) :
    Calls Tryz.prog 77 #[.slice A n c, .slice A' n' c'] w fun e w' => e = .returned (.bool (decide (xs = ys))) ∧ ∃ q, w' = w.drewN q := by
  have hl := hA.len
  have hl' := hA'.len
  unfold maxLen at hn hn'
  by_cases hnn : n = n'
  rotate_left
  · have hne : (((n : Int) != (n' : Int))) = true := by simp; omega
    go_enter Tryz.func77, Tryz.ntmps77
    go_wp2
    go_ret
    exact ⟨ret_bool (by rw [eq_comm, decide_eq_false_iff_not]; rintro rfl; omega), 0, rfl⟩
  subst hnn
  have hAh := Lib.hid hA
  have hAh' := Lib.hid hA'
  clear hA hA'
  go_enter Tryz.func77, Tryz.ntmps77
  go_wp2
  go_loopw [5] (fun i wr => ∃ k : Nat, k ≤ n ∧ i = .int .i64 k ∧ Hid (xs.take k = ys.take k) ∧ Hid (∃ q, wr = w.drewN q)) (fun i _ => n - (intOf i).toNat)
  case atStart => exact ⟨0, Nat.zero_le _, rfl, Lib.hid rfl, Lib.hid ⟨0, rfl⟩⟩
  case round =>
    obtain ⟨k, hk, rfl, hq, hw⟩ := hrel
    obtain ⟨wo, rfl⟩ : ∃ wo : World, wo = wr := ⟨_, rfl⟩
    have hAo : Hid (Pcs wo B A n vs xs) := Lib.hid (by obtain ⟨q, rfl⟩ := hw.out; exact hAh.out.drewN q)
    have hAo' : Hid (Pcs wo B' A' n vs' ys) := Lib.hid (by obtain ⟨q, rfl⟩ := hw.out; exact hAh'.out.drewN q)
    have hdr : Hid (∀ j, ∃ q, wo.drewN j = w.drewN q) := Lib.hid (fun j => by obtain ⟨q, rfl⟩ := hw.out; exact ⟨_, World.drewN_drewN _ _ _⟩)
    by_cases hlt : k < n
    · obtain ⟨b, o, cf, At, nt, ct, Ab, nb, cb, As, ns, cs, t, bs, ss, rfl, hb, hv, hp, k1, k2, k3, k4, j1, j2, j3, j4, rr, j5⟩ := hAo.out.at_ (k := k) hlt
      obtain ⟨b', o', cf', At', nt', ct', Ab', nb', cb', As', ns', cs', t', bs', ss', rfl, hb', hv', hp', k1', k2', k3', k4', j1', j2', j3', j4', rr', j5'⟩ := hAo'.out.at_ (k := k) hlt
      have i1 : (0 : Int) ≤ (k : Int) := by omega
      have i2 : (k : Int) < (n : Int) := by omega
      obtain ⟨f0, hf0⟩ : ∃ f0, (cf != cf') = f0 := ⟨_, rfl⟩
      obtain ⟨f1, hf1⟩ : ∃ f1, decide (t = t') = f1 := ⟨_, rfl⟩
      obtain ⟨f2, hf2⟩ : ∃ f2, decide (bs = bs') = f2 := ⟨_, rfl⟩
      obtain ⟨f3, hf3⟩ : ∃ f3, decide (ss = ss') = f3 := ⟨_, rfl⟩
      have hF1 : Hid (∀ j, Calls Tryz.prog 12 #[.slice At nt ct, .slice At' nt' ct'] (wo.drewN j) fun e w' => e = .returned (.bool f1) ∧ ∃ q, w' = (wo.drewN j).drewN q) := Lib.hid (fun j => by
        rw [← hf1]; exact Same_any At At' nt nt' ct ct' B B' t t' _ (Nat.le_trans j1.1 j1.2.1) (Nat.le_trans j1'.1 j1'.2.1) (j1.2.2.drewN j) (j1'.2.2.drewN j))
      have hF2 : Hid (∀ j, Calls Tryz.prog 12 #[.slice Ab nb cb, .slice Ab' nb' cb'] (wo.drewN j) fun e w' => e = .returned (.bool f2) ∧ ∃ q, w' = (wo.drewN j).drewN q) := Lib.hid (fun j => by
        rw [← hf2]; exact Same_any Ab Ab' nb nb' cb cb' B B' bs bs' _ (Nat.le_trans j2.1 j2.2.1) (Nat.le_trans j2'.1 j2'.2.1) (j2.2.2.drewN j) (j2'.2.2.drewN j))
      have hF3 : Hid (∀ j, Calls Tryz.prog 91 #[.slice As ns cs, .slice As' ns' cs'] (wo.drewN j) fun e w' => e = .returned (.bool f3) ∧ ∃ q, w' = (wo.drewN j).drewN q) := Lib.hid (fun j => by
        rw [← hf3]; exact cAll_any As As' ns ns' cs cs' B B' rr rr' ss ss' _ (Nat.le_trans j3 j4) (Nat.le_trans j3' j4') (j5.drewN j) (j5'.drewN j))
      have heq : Hid ((f0 = false ∧ f1 = true ∧ f2 = true ∧ f3 = true) ↔ ((cf, t, bs, ss) : Pc) = (cf', t', bs', ss')) := Lib.hid (by
        rw [← hf0, ← hf1, ← hf2, ← hf3]
        simp [Prod.ext_iff])
      have hph := Lib.hid hp
      have hph' := Lib.hid hp'
      clear hv hp hv' hp' hf1 hf2 hf3 j1 j2 j5 j1' j2' j5'
      have hneq : ∀ W : World, (binOp .neq 4 (.bool cf) (.bool cf')).run Tryz.prog W = .ok (.bool f0) W := fun W => by rw [neq_bool, hf0]
      clear hf0
      cases f0
      · cases f1
        · have hno := Lib.hid (psame_no hph.out hph'.out (fun e => by have := heq.out.2 e; simp at this))
          go_wp2
          go_quiet ((first | (go_at_call 12; first | with_reducible exact Calls.quiet_of (hF1.out _) | with_reducible exact Calls.quiet_of (hF2.out _)) | (go_at_call 91; exact Calls.quiet_of (hF3.out _))))
          obtain ⟨z1, rfl⟩ : ∃ z1, z1 = nq := ⟨_, rfl⟩
          go_wp2
          go_ret
          exact ⟨ret_bool hno.out, hdr.out z1⟩
        · cases f2
          · have hno := Lib.hid (psame_no hph.out hph'.out (fun e => by have := heq.out.2 e; simp at this))
            go_wp2
            go_quiet ((first | (go_at_call 12; first | with_reducible exact Calls.quiet_of (hF1.out _) | with_reducible exact Calls.quiet_of (hF2.out _)) | (go_at_call 91; exact Calls.quiet_of (hF3.out _))))
            obtain ⟨z1, rfl⟩ : ∃ z1, z1 = nq := ⟨_, rfl⟩
            go_wp2
            go_ret
            exact ⟨ret_bool hno.out, hdr.out z1⟩
          · cases f3
            · have hno := Lib.hid (psame_no hph.out hph'.out (fun e => by have := heq.out.2 e; simp at this))
              go_wp2
              go_quiet ((first | (go_at_call 12; first | with_reducible exact Calls.quiet_of (hF1.out _) | with_reducible exact Calls.quiet_of (hF2.out _)) | (go_at_call 91; exact Calls.quiet_of (hF3.out _))))
              obtain ⟨z1, rfl⟩ : ∃ z1, z1 = nq := ⟨_, rfl⟩
              go_wp2
              go_ret
              exact ⟨ret_bool hno.out, hdr.out z1⟩
            · have hyes := Lib.hid (psame_yes hq.out hph.out hph'.out (heq.out.1 ⟨rfl, rfl, rfl, rfl⟩))
              go_wp2
              go_quiet ((first | (go_at_call 12; first | with_reducible exact Calls.quiet_of (hF1.out _) | with_reducible exact Calls.quiet_of (hF2.out _)) | (go_at_call 91; exact Calls.quiet_of (hF3.out _))))
              obtain ⟨z1, rfl⟩ : ∃ z1, z1 = nq := ⟨_, rfl⟩
              go_wp2
              go_roundw
              case rel => exact ⟨k + 1, by omega, by go_num, hyes, Lib.hid (hdr.out z1)⟩
              case measure => simp [intOf]; omega
      · have hno := Lib.hid (psame_no hph.out hph'.out (fun e => by have := heq.out.2 e; simp at this))
        go_wp2
        go_quiet (fail)
        obtain ⟨z1, rfl⟩ : ∃ z1, z1 = nq := ⟨_, rfl⟩
        go_wp2
        go_ret
        exact ⟨ret_bool hno.out, hdr.out z1⟩
    · go_wp2
      go_ret
      exact ⟨ret_bool (by rw [eq_comm, decide_eq_true_iff]; have := hq.out; rwa [List.take_of_length_le (by omega), List.take_of_length_le (by omega)] at this), hw.out⟩
end Go.Proofs.YtcjmmidnfjifaaaGreatDoor
/- What the statements ask of pick.Normal. -/
namespace Go.Proofs.YtcjmmidnfjifaaaGreatDoor
open Go.RowKit
set_option linter.unusedVariables false

/-- Conflicts that aren't too long. -/
def smallN (ps : List Pc) : Prop := ∀ p ∈ ps, p.2.2.2.length ≤ 1000 ∧ ∀ d ∈ p.2.2.1 :: p.2.2.2, d.length ≤ 1000000
theorem smallN_text (t : Txs) : (tPc t).2.2.2.length ≤ 1000 ∧ ∀ d ∈ (tPc t).2.2.1 :: (tPc t).2.2.2, d.length ≤ 1000000 :=
  ⟨by simp [tPc], fun d hd => by simp [tPc] at hd; subst hd; simp⟩
theorem smallN_join (t : Txs) : ∀ {r : List Pc}, smallN r → smallN (joinT t r)
  | [], h => by
    show smallN (if t = [] then [] else [tPc t])
    by_cases e : t = []
    · rw [if_pos e]; exact h
    · rw [if_neg e]
      intro p hp
      rw [List.mem_singleton.1 hp]
      exact smallN_text t
  | (false, x, b, s) :: r, h => by
    intro p hp
    rcases List.mem_cons.1 hp with rfl | hp
    · exact h (false, x, b, s) (List.mem_cons_self ..)
    · exact h _ (List.mem_cons_of_mem _ hp)
  | (true, x, b, s) :: r, h => by
    show smallN (if t = [] then (true, x, b, s) :: r else tPc t :: (true, x, b, s) :: r)
    by_cases e : t = []
    · rw [if_pos e]; exact h
    · rw [if_neg e]
      intro p hp
      rcases List.mem_cons.1 hp with rfl | hp
      · exact smallN_text t
      · exact h _ hp
theorem smallN_normal : ∀ {ps : List Pc}, smallN ps → smallN (normal ps)
  | [], h => h
  | (true, x, b, s) :: l, h => by
    intro p hp
    rcases List.mem_cons.1 hp with rfl | hp
    · exact h (true, x, b, s) (List.mem_cons_self ..)
    · exact smallN_normal (fun q hq => h q (List.mem_cons_of_mem _ hq)) p hp
  | (false, t, b, s) :: l, h => smallN_join t (smallN_normal fun q hq => h q (List.mem_cons_of_mem _ hq))

theorem sumT_join (t : Txs) : ∀ r : List Pc, sumT (joinT t r) = t.length + sumT r
  | [] => by unfold joinT; by_cases h : t = [] <;> simp [h, sumT, tPc]
  | (false, x, b, s) :: r => by simp [joinT, sumT]; omega
  | (true, x, b, s) :: r => by unfold joinT; by_cases h : t = [] <;> simp [h, sumT, tPc]
theorem sumT_normal : ∀ ps : List Pc, sumT (normal ps) ≤ sumT ps
  | [] => by simp [normal]
  | (true, t, b, s) :: l => by
    have := sumT_normal l
    rw [normal, sumT_cons, sumT_cons]
    show ([] : Txs).length + _ ≤ _
    simp
    omega
  | (false, t, b, s) :: l => by
    have := sumT_normal l
    rw [normal, sumT_join, sumT_cons]
    show _ ≤ t.length + _
    omega

theorem len_join (t : Txs) : ∀ r : List Pc, (joinT t r).length ≤ r.length + 1
  | [] => by unfold joinT; by_cases h : t = [] <;> simp [h]
  | (false, x, b, s) :: r => by simp [joinT]
  | (true, x, b, s) :: r => by unfold joinT; by_cases h : t = [] <;> simp [h]
theorem len_normal : ∀ ps : List Pc, (normal ps).length ≤ ps.length
  | [] => Nat.le_refl _
  | (true, x, b, s) :: l => by
    have := len_normal l
    simp [normal]
    omega
  | (false, x, b, s) :: l => by
    have h1 := len_normal l
    have h2 := len_join x (normal l)
    simp only [normal, List.length_cons]
    omega
theorem sumT_mem {ps : List Pc} {p : Pc} (h : p ∈ ps) : p.2.1.length ≤ sumT ps := by
  induction ps with
  | nil => simp at h
  | cons q ps ih =>
    rw [sumT_cons]
    rcases List.mem_cons.1 h with rfl | h
    · omega
    · have := ih h
      omega
theorem sumT_take (ps : List Pc) (i : Nat) : sumT (ps.take i) ≤ sumT ps := by
  induction ps generalizing i with
  | nil => simp
  | cons p ps ih =>
    cases i with
    | zero => simp [sumT]
    | succ i =>
      rw [List.take_succ_cons, sumT_cons, sumT_cons]
      have := ih i
      omega

/-- The contract of pick.Normal. -/
def PickNormalOk : Prop := ∀ (A : Option Addr) (n c : Nat) (vs : List PcV) (ps : List Pc) (w : World), n ≤ c → c ≤ maxLen → n ≤ 10000 → sumT ps ≤ 1000000 → smallN ps → Pcs w w.heap.size A n vs ps →
    Calls Tryz.prog 43 #[.slice A n c] w fun e w' => PcsOut w w' e (normal ps)
end Go.Proofs.YtcjmmidnfjifaaaGreatDoor
/- Proved here, without a word of the program: pieces that are neither many nor long; how long what is made smaller is. -/
namespace Go.Proofs.YtcjmmidnfjifaaaGreatDoor
open Go.RowKit
set_option linter.unusedVariables false

/-- Pieces that are neither many nor long. -/
def smallZ (ps : List Pc) : Prop := ps.length ≤ 100 ∧ ∀ p ∈ ps, smallP p
theorem trimL_sum {f base : Txs} {ds : List Txs} : sumT (trimL base f ds) ≤ 2 * f.length ∧ (trimL base f ds).length ≤ 3 := by
  unfold trimL
  dsimp only
  split
  · simp [sumT, tPc]; omega
  · simp only [sumT, tPc, cPc, List.map_cons, List.map_nil, List.sum_cons, List.sum_nil, List.length_take, List.length_drop, List.length_nil, List.length_cons]
    omega
theorem trimD_sum {p : Pc} (h : smallP p) : sumT (trimD p) ≤ 10000 ∧ (trimD p).length ≤ 3 := by
  obtain ⟨cf, t, bs, ss⟩ := p
  have one : sumT (normal [(cf, t, bs, ss)]) ≤ 10000 ∧ (normal [(cf, t, bs, ss)]).length ≤ 3 := by
    have h1 := sumT_normal [(cf, t, bs, ss)]
    have h2 := len_normal [(cf, t, bs, ss)]
    have h3 := h.1
    simp [sumT] at h1 h2 h3
    simp [sumT]
    omega
  cases cf with
  | false => exact one
  | true =>
    cases ss with
    | nil => exact one
    | cons f ds =>
      show sumT (normal (trimL bs f (f :: ds))) ≤ 10000 ∧ (normal (trimL bs f (f :: ds))).length ≤ 3
      have h1 := sumT_normal (trimL bs f (f :: ds))
      have h2 := len_normal (trimL bs f (f :: ds))
      have h3 := trimL_sum (base := bs) (f := f) (ds := f :: ds)
      have h4 : f.length ≤ 5000 := h.2.2.1 f (List.mem_cons_self ..)
      omega
theorem flat_sum : ∀ {ps : List Pc}, (∀ p ∈ ps, smallP p) → sumT (ps.flatMap trimD) ≤ ps.length * 10000 ∧ (ps.flatMap trimD).length ≤ ps.length * 3
  | [], _ => by simp [sumT]
  | p :: ps, h => by
    obtain ⟨h1, h2⟩ := flat_sum (ps := ps) fun q hq => h q (List.mem_cons_of_mem _ hq)
    obtain ⟨h3, h4⟩ := trimD_sum (h p (List.mem_cons_self ..))
    rw [List.flatMap_cons, List.length_append, List.length_cons]
    have e : sumT (trimD p ++ ps.flatMap trimD) = sumT (trimD p) + sumT (ps.flatMap trimD) := by simp [sumT]
    rw [e]
    omega
end Go.Proofs.YtcjmmidnfjifaaaGreatDoor
