/- Proved here: texts joined: ContAll, PickSm, ConNormal, ZlSz, MkForm. -/
import Derived.Test.YtcpopnhnihbofaaGreatDoorBe07
import Derived.Test.YtcpopnhnihbofaaGreatDoorBe13
import Derived.Test.YtcpopnhnihbofaaGreatDoorBe15
import Derived.Test.YtcpopnhnihbofaaGreatDoorBe16
import Derived.Deep.DeepCutAuto
import Derived.Outline
/- Proved here: the contract of the document's own answer of layer 6: All. -/
namespace Go.Proofs.YtcpopnhnihbofaaGreatDoor
open Go.RowKit
set_option linter.unusedVariables false

theorem all_no {xs ys : List Txs} {k : Nat} {x y : Txs} (hx : xs[k]? = some x) (hy : ys[k]? = some y) (h : x ≠ y) : false = decide (xs = ys) := by
  rw [eq_comm, decide_eq_false_iff_not]
  rintro rfl
  rw [hx] at hy
  injection hy with hy
  exact h hy
theorem all_yes {xs ys : List Txs} {k : Nat} {x y : Txs} (hq : xs.take k = ys.take k) (hx : xs[k]? = some x) (hy : ys[k]? = some y) (h : x = y) : xs.take (k + 1) = ys.take (k + 1) := by
  rw [take_at hx, take_at hy, hq, h]

set_option maxHeartbeats 800000 in
theorem cAll_any (A A' : Option Addr) (n n' c c' B B' : Nat) (rows rows' : List Slc) (xs ys : List Txs) (w : World) (hn : n ≤ maxLen) (hn' : n' ≤ maxLen) (hA : RowsT w B A n rows xs) (hA' : RowsT w B' A' n' rows' ys) :
    Calls Tryz.prog 34 #[.slice A n c, .slice A' n' c'] w fun e w' => e = .returned (.bool (decide (xs = ys))) ∧ ∃ q, w' = w.drewN q := by
  have hl := hA.len
  have hl' := hA'.len
  unfold maxLen at hn hn'
  by_cases hnn : n = n'
  · subst hnn
    go_enter Tryz.func34, Tryz.ntmps34
    go_wp2
    go_loopw [5] (fun i wr => ∃ k : Nat, k ≤ n ∧ i = .int .i64 k ∧ Hid (xs.take k = ys.take k) ∧ ∃ q, wr = w.drewN q) (fun i _ => n - (intOf i).toNat)
    case atStart => exact ⟨0, Nat.zero_le _, rfl, Lib.hid rfl, 0, rfl⟩
    case round =>
      obtain ⟨k, hk, rfl, hq, q, rfl⟩ := hrel
      by_cases hlt : k < n
      · obtain ⟨b, o, A1, n1, c1, x, rfl, hb, hx, -, hc0, hnc, hcm, hst⟩ := hA.at_ (k := k) hlt
        obtain ⟨b', o', A2, n2, c2, y, rfl, hb', hy, -, hc0', hnc', hcm', hst'⟩ := hA'.at_ (k := k) hlt
        have hi1 : (0 : Int) ≤ (k : Int) := by omega
        have hi2 : (k : Int) < (n : Int) := by omega
        obtain ⟨bb, hbb⟩ : ∃ bb, decide (x = y) = bb := ⟨_, rfl⟩
        have hS := fun W (h1 : Strs W B A1 n1 x) (h2 : Strs W B' A2 n2 y) => Same_any A1 A2 n1 n2 c1 c2 B B' x y W (by omega) (by omega) h1 h2
        rw [hbb] at hS
        have hS' := Lib.hid (fun j => hS ((w.drewN q).drewN j) ((hst.drewN q).drewN j) ((hst'.drewN q).drewN j))
        have hS'' := Lib.hid (fun j => hS (w.drewN j) (hst.drewN j) (hst'.drewN j))
        have hbbh := Lib.hid hbb
        have hxh := Lib.hid hx
        have hyh := Lib.hid hy
        clear hS hbb hst hst' hx hy
        obtain ⟨wo, hwo⟩ : ∃ wo : World, wo = w.drewN q := ⟨_, rfl⟩
        rw [← hwo] at hS' ⊢
        have e0 : wo.cell? ⟨b, o + k, none⟩ = some (.slice A1 n1 c1) := by rw [hwo]; exact hc0
        have e1 : wo.cell? ⟨b', o' + k, none⟩ = some (.slice A2 n2 c2) := by rw [hwo]; exact hc0'
        have hwoh := Lib.hid hwo
        clear hwo hS'' hc0 hc0'
        go_wp2
        go_quiet ((go_at_call 15; exact Calls.quiet_of (hS'.out _)))
        obtain ⟨z1, rfl⟩ : ∃ z1, z1 = nq := ⟨_, rfl⟩
        cases bb
        · have hne : x ≠ y := by simpa using hbbh.out
          have hneh := Lib.hid hne
          clear hne
          go_wp2
          go_ret
          exact ⟨ret_bool (all_no hxh.out hyh.out hneh.out), q + z1, by rw [hwoh.out, World.drewN_drewN]⟩
        · have he : x = y := by simpa using hbbh.out
          have heh := Lib.hid he
          clear he
          go_wp2
          go_roundw
          case rel => exact ⟨k + 1, by omega, by go_num, Lib.hid (all_yes hq.out hxh.out hyh.out heh.out), q + z1, by rw [hwoh.out, World.drewN_drewN]⟩
          case measure => simp [intOf]; omega
      · go_wp2
        go_ret
        exact ⟨ret_bool (by rw [eq_comm, decide_eq_true_iff]; have := hq.out; rwa [List.take_of_length_le (by omega), List.take_of_length_le (by omega)] at this), q, rfl⟩
  · have hne : (((n : Int) != (n' : Int))) = true := by simp; omega
    go_enter Tryz.func34, Tryz.ntmps34
    go_wp2
    go_ret
    exact ⟨ret_bool (by rw [eq_comm, decide_eq_false_iff_not]; rintro rfl; omega), 0, rfl⟩
end Go.Proofs.YtcpopnhnihbofaaGreatDoor
/- Proved here: the contract of the document's own answer of layer 7: Same. -/
namespace Go.Proofs.YtcpopnhnihbofaaGreatDoor
open Go.RowKit
set_option linter.unusedVariables false

theorem neq_bool (a b : Bool) (W : World) : (binOp .neq 4 (.bool a) (.bool b)).run Tryz.prog W = .ok (.bool (a != b)) W := by
  cases a <;> cases b <;> go_simp
theorem psame_no {xs ys : List Pc} {k : Nat} {x y : Pc} (hx : xs[k]? = some x) (hy : ys[k]? = some y) (h : x ≠ y) : false = decide (xs = ys) := by
  rw [eq_comm, decide_eq_false_iff_not]
  rintro rfl
  rw [hx] at hy
  injection hy with hy
  exact h hy
theorem psame_yes {xs ys : List Pc} {k : Nat} {x y : Pc} (hq : xs.take k = ys.take k) (hx : xs[k]? = some x) (hy : ys[k]? = some y) (h : x = y) : xs.take (k + 1) = ys.take (k + 1) := by
  rw [take_at hx, take_at hy, hq, h]

set_option maxRecDepth 100000 in
set_option maxHeartbeats 4000000 in
theorem pSame_any (A A' : Option Addr) (n n' c c' B B' : Nat) (vs vs' : List PcV) (xs ys : List Pc) (w : World) (hn : n ≤ maxLen) (hn' : n' ≤ maxLen) (hA : Pcs w B A n vs xs) (hA' : Pcs w B' A' n' vs' ys) :
    Calls Tryz.prog 12 #[.slice A n c, .slice A' n' c'] w fun e w' => e = .returned (.bool (decide (xs = ys))) ∧ ∃ q, w' = w.drewN q := by
  have hl := hA.len
  have hl' := hA'.len
  unfold maxLen at hn hn'
  by_cases hnn : n = n'
  rotate_left
  · have hne : (((n : Int) != (n' : Int))) = true := by simp; omega
    go_enter Tryz.func12, Tryz.ntmps12
    go_wp2
    go_ret
    exact ⟨ret_bool (by rw [eq_comm, decide_eq_false_iff_not]; rintro rfl; omega), 0, rfl⟩
  subst hnn
  have hAh := Lib.hid hA
  have hAh' := Lib.hid hA'
  clear hA hA'
  go_enter Tryz.func12, Tryz.ntmps12
  go_wp2
  go_loopw [5] (fun i wr => ∃ k : Nat, k ≤ n ∧ i = .int .i64 k ∧ Hid (xs.take k = ys.take k) ∧ Hid (∃ q, wr = w.drewN q)) (fun i _ => n - (intOf i).toNat)
  case atStart => exact ⟨0, Nat.zero_le _, rfl, Lib.hid rfl, Lib.hid ⟨0, rfl⟩⟩
  case round =>
    obtain ⟨k, hk, rfl, hq, hw⟩ := hrel
    obtain ⟨wo, rfl⟩ : ∃ wo : World, wo = wr := ⟨_, rfl⟩
    have hAo : Hid (Pcs wo B A n vs xs) := Lib.hid (by obtain ⟨q, rfl⟩ := hw.out; exact hAh.out.drewN q)
    have hAo' : Hid (Pcs wo B' A' n vs' ys) := Lib.hid (by obtain ⟨q, rfl⟩ := hw.out; exact hAh'.out.drewN q)
    have hdr : Hid (∀ j, ∃ q, wo.drewN j = w.drewN q) := Lib.hid (fun j => by obtain ⟨q, rfl⟩ := hw.out; exact ⟨_, World.drewN_drewN _ _ _⟩)
    by_cases hlt : k < n
    · obtain ⟨b, o, cf, At, nt, ct, Ab, nb, cb, As, ns, cs, t, bs, ss, rfl, hb, hv, hp, k1, k2, k3, k4, j1, j2, j3, j4, rr, j5⟩ := hAo.out.at_ (k := k) hlt
      obtain ⟨b', o', cf', At', nt', ct', Ab', nb', cb', As', ns', cs', t', bs', ss', rfl, hb', hv', hp', k1', k2', k3', k4', j1', j2', j3', j4', rr', j5'⟩ := hAo'.out.at_ (k := k) hlt
      have i1 : (0 : Int) ≤ (k : Int) := by omega
      have i2 : (k : Int) < (n : Int) := by omega
      obtain ⟨f0, hf0⟩ : ∃ f0, (cf != cf') = f0 := ⟨_, rfl⟩
      obtain ⟨f1, hf1⟩ : ∃ f1, decide (t = t') = f1 := ⟨_, rfl⟩
      obtain ⟨f2, hf2⟩ : ∃ f2, decide (bs = bs') = f2 := ⟨_, rfl⟩
      obtain ⟨f3, hf3⟩ : ∃ f3, decide (ss = ss') = f3 := ⟨_, rfl⟩
      have hF1 : Hid (∀ j, Calls Tryz.prog 15 #[.slice At nt ct, .slice At' nt' ct'] (wo.drewN j) fun e w' => e = .returned (.bool f1) ∧ ∃ q, w' = (wo.drewN j).drewN q) := Lib.hid (fun j => by
        rw [← hf1]; exact Same_any At At' nt nt' ct ct' B B' t t' _ (Nat.le_trans j1.1 j1.2.1) (Nat.le_trans j1'.1 j1'.2.1) (j1.2.2.drewN j) (j1'.2.2.drewN j))
      have hF2 : Hid (∀ j, Calls Tryz.prog 15 #[.slice Ab nb cb, .slice Ab' nb' cb'] (wo.drewN j) fun e w' => e = .returned (.bool f2) ∧ ∃ q, w' = (wo.drewN j).drewN q) := Lib.hid (fun j => by
        rw [← hf2]; exact Same_any Ab Ab' nb nb' cb cb' B B' bs bs' _ (Nat.le_trans j2.1 j2.2.1) (Nat.le_trans j2'.1 j2'.2.1) (j2.2.2.drewN j) (j2'.2.2.drewN j))
      have hF3 : Hid (∀ j, Calls Tryz.prog 34 #[.slice As ns cs, .slice As' ns' cs'] (wo.drewN j) fun e w' => e = .returned (.bool f3) ∧ ∃ q, w' = (wo.drewN j).drewN q) := Lib.hid (fun j => by
        rw [← hf3]; exact cAll_any As As' ns ns' cs cs' B B' rr rr' ss ss' _ (Nat.le_trans j3 j4) (Nat.le_trans j3' j4') (j5.drewN j) (j5'.drewN j))
      have heq : Hid ((f0 = false ∧ f1 = true ∧ f2 = true ∧ f3 = true) ↔ ((cf, t, bs, ss) : Pc) = (cf', t', bs', ss')) := Lib.hid (by
        rw [← hf0, ← hf1, ← hf2, ← hf3]
        simp [Prod.ext_iff])
      have hph := Lib.hid hp
      have hph' := Lib.hid hp'
      clear hv hp hv' hp' hf1 hf2 hf3 j1 j2 j5 j1' j2' j5'
      have hneq : ∀ W : World, (binOp .neq 4 (.bool cf) (.bool cf')).run Tryz.prog W = .ok (.bool f0) W := fun W => by rw [neq_bool, hf0]
      clear hf0
      cases f0
      · cases f1
        · have hno := Lib.hid (psame_no hph.out hph'.out (fun e => by have := heq.out.2 e; simp at this))
          go_wp2
          go_quiet ((first | (go_at_call 15; first | with_reducible exact Calls.quiet_of (hF1.out _) | with_reducible exact Calls.quiet_of (hF2.out _)) | (go_at_call 34; exact Calls.quiet_of (hF3.out _))))
          obtain ⟨z1, rfl⟩ : ∃ z1, z1 = nq := ⟨_, rfl⟩
          go_wp2
          go_ret
          exact ⟨ret_bool hno.out, hdr.out z1⟩
        · cases f2
          · have hno := Lib.hid (psame_no hph.out hph'.out (fun e => by have := heq.out.2 e; simp at this))
            go_wp2
            go_quiet ((first | (go_at_call 15; first | with_reducible exact Calls.quiet_of (hF1.out _) | with_reducible exact Calls.quiet_of (hF2.out _)) | (go_at_call 34; exact Calls.quiet_of (hF3.out _))))
            obtain ⟨z1, rfl⟩ : ∃ z1, z1 = nq := ⟨_, rfl⟩
            go_wp2
            go_ret
            exact ⟨ret_bool hno.out, hdr.out z1⟩
          · cases f3
            · have hno := Lib.hid (psame_no hph.out hph'.out (fun e => by have := heq.out.2 e; simp at this))
              go_wp2
              go_quiet ((first | (go_at_call 15; first | with_reducible exact Calls.quiet_of (hF1.out _) | with_reducible exact Calls.quiet_of (hF2.out _)) | (go_at_call 34; exact Calls.quiet_of (hF3.out _))))
              obtain ⟨z1, rfl⟩ : ∃ z1, z1 = nq := ⟨_, rfl⟩
              go_wp2
              go_ret
              exact ⟨ret_bool hno.out, hdr.out z1⟩
            · have hyes := Lib.hid (psame_yes hq.out hph.out hph'.out (heq.out.1 ⟨rfl, rfl, rfl, rfl⟩))
              go_wp2
              go_quiet ((first | (go_at_call 15; first | with_reducible exact Calls.quiet_of (hF1.out _) | with_reducible exact Calls.quiet_of (hF2.out _)) | (go_at_call 34; exact Calls.quiet_of (hF3.out _))))
              obtain ⟨z1, rfl⟩ : ∃ z1, z1 = nq := ⟨_, rfl⟩
              go_wp2
              go_roundw
              case rel => exact ⟨k + 1, by omega, by go_num, hyes, Lib.hid (hdr.out z1)⟩
              case measure => simp [intOf]; omega
      · have hno := Lib.hid (psame_no hph.out hph'.out (fun e => by have := heq.out.2 e; simp at this))
        go_wp2
        go_quiet (fail)
        obtain ⟨z1, rfl⟩ : ∃ z1, z1 = nq := ⟨_, rfl⟩
        go_wp2
        go_ret
        exact ⟨ret_bool hno.out, hdr.out z1⟩
    · go_wp2
      go_ret
      exact ⟨ret_bool (by rw [eq_comm, decide_eq_true_iff]; have := hq.out; rwa [List.take_of_length_le (by omega), List.take_of_length_le (by omega)] at this), hw.out⟩
end Go.Proofs.YtcpopnhnihbofaaGreatDoor
/- What the statements ask of pick.Normal. -/
namespace Go.Proofs.YtcpopnhnihbofaaGreatDoor
open Go.RowKit
set_option linter.unusedVariables false

/-- Conflicts that aren't too long. -/
def smallN (ps : List Pc) : Prop := ∀ p ∈ ps, p.2.2.2.length ≤ 1000 ∧ ∀ d ∈ p.2.2.1 :: p.2.2.2, d.length ≤ 1000000
theorem smallN_text (t : Txs) : (tPc t).2.2.2.length ≤ 1000 ∧ ∀ d ∈ (tPc t).2.2.1 :: (tPc t).2.2.2, d.length ≤ 1000000 :=
  ⟨by simp [tPc], fun d hd => by simp [tPc] at hd; subst hd; simp⟩
theorem smallN_join (t : Txs) : ∀ {r : List Pc}, smallN r → smallN (joinT t r)
  | [], h => by
    show smallN (if t = [] then [] else [tPc t])
    by_cases e : t = []
    · rw [if_pos e]; exact h
    · rw [if_neg e]
      intro p hp
      rw [List.mem_singleton.1 hp]
      exact smallN_text t
  | (false, x, b, s) :: r, h => by
    intro p hp
    rcases List.mem_cons.1 hp with rfl | hp
    · exact h (false, x, b, s) (List.mem_cons_self ..)
    · exact h _ (List.mem_cons_of_mem _ hp)
  | (true, x, b, s) :: r, h => by
    show smallN (if t = [] then (true, x, b, s) :: r else tPc t :: (true, x, b, s) :: r)
    by_cases e : t = []
    · rw [if_pos e]; exact h
    · rw [if_neg e]
      intro p hp
      rcases List.mem_cons.1 hp with rfl | hp
      · exact smallN_text t
      · exact h _ hp
theorem smallN_normal : ∀ {ps : List Pc}, smallN ps → smallN (normal ps)
  | [], h => h
  | (true, x, b, s) :: l, h => by
    intro p hp
    rcases List.mem_cons.1 hp with rfl | hp
    · exact h (true, x, b, s) (List.mem_cons_self ..)
    · exact smallN_normal (fun q hq => h q (List.mem_cons_of_mem _ hq)) p hp
  | (false, t, b, s) :: l, h => smallN_join t (smallN_normal fun q hq => h q (List.mem_cons_of_mem _ hq))

theorem sumT_join (t : Txs) : ∀ r : List Pc, sumT (joinT t r) = t.length + sumT r
  | [] => by unfold joinT; by_cases h : t = [] <;> simp [h, sumT, tPc]
  | (false, x, b, s) :: r => by simp [joinT, sumT]; omega
  | (true, x, b, s) :: r => by unfold joinT; by_cases h : t = [] <;> simp [h, sumT, tPc]
theorem sumT_normal : ∀ ps : List Pc, sumT (normal ps) ≤ sumT ps
  | [] => by simp [normal]
  | (true, t, b, s) :: l => by
    have := sumT_normal l
    rw [normal, sumT_cons, sumT_cons]
    show ([] : Txs).length + _ ≤ _
    simp
    omega
  | (false, t, b, s) :: l => by
    have := sumT_normal l
    rw [normal, sumT_join, sumT_cons]
    show _ ≤ t.length + _
    omega

theorem len_join (t : Txs) : ∀ r : List Pc, (joinT t r).length ≤ r.length + 1
  | [] => by unfold joinT; by_cases h : t = [] <;> simp [h]
  | (false, x, b, s) :: r => by simp [joinT]
  | (true, x, b, s) :: r => by unfold joinT; by_cases h : t = [] <;> simp [h]
theorem len_normal : ∀ ps : List Pc, (normal ps).length ≤ ps.length
  | [] => Nat.le_refl _
  | (true, x, b, s) :: l => by
    have := len_normal l
    simp [normal]
    omega
  | (false, x, b, s) :: l => by
    have h1 := len_normal l
    have h2 := len_join x (normal l)
    simp only [normal, List.length_cons]
    omega
theorem sumT_mem {ps : List Pc} {p : Pc} (h : p ∈ ps) : p.2.1.length ≤ sumT ps := by
  induction ps with
  | nil => simp at h
  | cons q ps ih =>
    rw [sumT_cons]
    rcases List.mem_cons.1 h with rfl | h
    · omega
    · have := ih h
      omega
theorem sumT_take (ps : List Pc) (i : Nat) : sumT (ps.take i) ≤ sumT ps := by
  induction ps generalizing i with
  | nil => simp
  | cons p ps ih =>
    cases i with
    | zero => simp [sumT]
    | succ i =>
      rw [List.take_succ_cons, sumT_cons, sumT_cons]
      have := ih i
      omega

/-- The contract of pick.Normal. -/
def PickNormalOk : Prop := ∀ (A : Option Addr) (n c : Nat) (vs : List PcV) (ps : List Pc) (w : World), n ≤ c → c ≤ maxLen → n ≤ 10000 → sumT ps ≤ 1000000 → smallN ps → Pcs w w.heap.size A n vs ps →
    Calls Tryz.prog 44 #[.slice A n c] w fun e w' => PcsOut w w' e (normal ps)
end Go.Proofs.YtcpopnhnihbofaaGreatDoor
/- Proved here, without a word of the program: pieces that are neither many nor long; how long what is made smaller is. -/
namespace Go.Proofs.YtcpopnhnihbofaaGreatDoor
open Go.RowKit
set_option linter.unusedVariables false

/-- Pieces that are neither many nor long. -/
def smallZ (ps : List Pc) : Prop := ps.length ≤ 100 ∧ ∀ p ∈ ps, smallP p
theorem trimL_sum {f base : Txs} {ds : List Txs} : sumT (trimL base f ds) ≤ 2 * f.length ∧ (trimL base f ds).length ≤ 3 := by
  unfold trimL
  dsimp only
  split
  · simp [sumT, tPc]; omega
  · simp only [sumT, tPc, cPc, List.map_cons, List.map_nil, List.sum_cons, List.sum_nil, List.length_take, List.length_drop, List.length_nil, List.length_cons]
    omega
theorem trimD_sum {p : Pc} (h : smallP p) : sumT (trimD p) ≤ 10000 ∧ (trimD p).length ≤ 3 := by
  obtain ⟨cf, t, bs, ss⟩ := p
  have one : sumT (normal [(cf, t, bs, ss)]) ≤ 10000 ∧ (normal [(cf, t, bs, ss)]).length ≤ 3 := by
    have h1 := sumT_normal [(cf, t, bs, ss)]
    have h2 := len_normal [(cf, t, bs, ss)]
    have h3 := h.1
    simp [sumT] at h1 h2 h3
    simp [sumT]
    omega
  cases cf with
  | false => exact one
  | true =>
    cases ss with
    | nil => exact one
    | cons f ds =>
      show sumT (normal (trimL bs f (f :: ds))) ≤ 10000 ∧ (normal (trimL bs f (f :: ds))).length ≤ 3
      have h1 := sumT_normal (trimL bs f (f :: ds))
      have h2 := len_normal (trimL bs f (f :: ds))
      have h3 := trimL_sum (base := bs) (f := f) (ds := f :: ds)
      have h4 : f.length ≤ 5000 := h.2.2.1 f (List.mem_cons_self ..)
      omega
theorem flat_sum : ∀ {ps : List Pc}, (∀ p ∈ ps, smallP p) → sumT (ps.flatMap trimD) ≤ ps.length * 10000 ∧ (ps.flatMap trimD).length ≤ ps.length * 3
  | [], _ => by simp [sumT]
  | p :: ps, h => by
    obtain ⟨h1, h2⟩ := flat_sum (ps := ps) fun q hq => h q (List.mem_cons_of_mem _ hq)
    obtain ⟨h3, h4⟩ := trimD_sum (h p (List.mem_cons_self ..))
    rw [List.flatMap_cons, List.length_append, List.length_cons]
    have e : sumT (trimD p ++ ps.flatMap trimD) = sumT (trimD p) + sumT (ps.flatMap trimD) := by simp [sumT]
    rw [e]
    omega
end Go.Proofs.YtcpopnhnihbofaaGreatDoor
/- Proved here: the contract of the document's own answer of layer 12: Form. -/
namespace Go.Proofs.YtcpopnhnihbofaaGreatDoor
open Go.RowKit
set_option linter.unusedVariables false
set_option maxRecDepth 100000

/-- Pieces that are neither many nor long, of texts that aren't long. -/
def smallK (ps : List Pc) : Prop := smallZ ps ∧ ∀ d ∈ listsP ps, ∀ s ∈ d, s.length ≤ 1000000
theorem sumT_small : ∀ {ps : List Pc}, (∀ p ∈ ps, smallP p) → sumT ps ≤ ps.length * 5000
  | [], _ => by simp [sumT]
  | p :: ps, h => by
    have h1 := sumT_small (ps := ps) fun q hq => h q (List.mem_cons_of_mem _ hq)
    have h2 := (h p (List.mem_cons_self ..)).1
    rw [sumT_cons, List.length_cons]
    omega
theorem lists_count : ∀ {ps : List Pc}, (∀ p ∈ ps, smallP p) → (listsP ps).length ≤ ps.length * 1002
  | [], _ => by simp [listsP]
  | p :: ps, h => by
    have h1 := lists_count (ps := ps) fun q hq => h q (List.mem_cons_of_mem _ hq)
    have h2 := (h p (List.mem_cons_self ..)).2.1
    unfold listsP at h1 ⊢
    rw [List.flatMap_cons, List.length_append, List.length_cons]
    simp only [List.length_cons]
    omega
theorem dropLast_all {ps : List Pc} {n : Nat} (f : Pc → Bool) (hl : ps.length = n) (h : ∀ i p, i + 1 < n → ps[i]? = some p → f p = true) : ps.dropLast.all f = true := by
  rw [List.all_eq_true]
  intro p hp
  obtain ⟨i, hi⟩ := List.mem_iff_getElem?.1 hp
  rw [List.getElem?_dropLast] at hi
  split at hi
  · rename_i hlt
    exact h i p (by omega) hi
  · cases hi
theorem dropLast_no {ps : List Pc} {n i : Nat} {p : Pc} (f : Pc → Bool) (hl : ps.length = n) (hi : i + 1 < n) (hp : ps[i]? = some p) (h : f p = false) : ps.dropLast.all f = false := by
  rw [List.all_eq_false]
  exact ⟨p, List.mem_of_getElem? (i := i) (by rw [List.getElem?_dropLast, if_pos (by omega)]; exact hp), by rw [h]; simp⟩

set_option maxHeartbeats 4000000 in
theorem rForm_any (A : Option Addr) (n c : Nat) (vs : List PcV) (ps : List Pc) (w : World) (hnc : n ≤ maxLen) (hsm : smallK ps) (hA : Pcs w w.heap.size A n vs ps) :
    Calls Tryz.prog 38 #[.slice A n c] w fun e w' => e = .returned (.bool (formB ps)) ∧ Below w.heap.size w w' := by
  obtain ⟨⟨hs1, hs2⟩, hs3⟩ := hsm
  have hl := hA.len
  have hn100 : n ≤ 100 := by omega
  have hNo := Lib.hid (rNormal_any A n c vs ps w (by omega) (by have := sumT_small hs2; omega) hA)
  have hAh := Lib.hid hA
  have hlh := Lib.hid hl
  have hs3h := Lib.hid hs3
  have hLi : Hid (∀ W, Below w.heap.size w W → Calls Tryz.prog 40 #[.slice A n c] W fun e w' => RowsOut W w' e (listsP ps)) := Lib.hid (fun W hW => rLists_any A n c vs ps W hnc (by have := lists_count hs2; omega) (hA.up hW))
  obtain ⟨sm, hsm2⟩ : ∃ sm, decide (ps = normal ps) = sm := ⟨_, rfl⟩
  have hSm : Hid (∀ (A' : Option Addr) (n' c' : Nat) (vs' : List PcV) (W : World), n' ≤ maxLen → Below w.heap.size w W → Pcs W W.heap.size A' n' vs' (normal ps) → Calls Tryz.prog 12 #[.slice A n c, .slice A' n' c'] W fun e w' => e = .returned (.bool sm) ∧ Below w.heap.size w w') := Lib.hid (fun A' n' c' vs' W h1 hW h2 => by
    have := pSame_any A A' n n' c c' _ _ vs vs' ps (normal ps) W hnc h1 (hA.up hW) h2
    rw [hsm2] at this
    refine this.mono ?_
    rintro e w' ⟨r1, q, rfl⟩
    exact ⟨r1, below_drewN hW q⟩)
  have hMa : Hid (∀ (A' : Option Addr) (n' c' : Nat) (d : Txs) (W : World), n' ≤ maxLen → d ∈ listsP ps → Strs W W.heap.size A' n' d → Calls Tryz.prog 64 #[.slice A' n' c'] W fun e w' => e = .returned (.bool (mayB d)) ∧ ∃ q, w' = W.drewN q) := Lib.hid (fun A' n' c' d W h1 h2 h3 => (rMayB_any A' n' c' W.heap.size d W h1 (fun s hs => by have := hs3 d h2 s hs; unfold maxLen; omega) h3).mono fun e w' h => ⟨h.1, 0, h.2.symm⟩)
  have hOp : Hid (∀ (A' : Option Addr) (n' c' : Nat) (d : Txs) (W : World), n' ≤ maxLen → d ∈ listsP ps → Strs W W.heap.size A' n' d → Calls Tryz.prog 65 #[.slice A' n' c'] W fun e w' => e = .returned (.bool (openB d)) ∧ W = w') := Lib.hid (fun A' n' c' d W h1 h2 h3 => rOpen_any A' n' c' W.heap.size d W h1 (fun s hs => by have := hs3 d h2 s hs; unfold maxLen; omega) h3)
  have hf : formB ps = (sm && (listsP ps).all mayB && ps.dropLast.all fun p => !openB p.2.1) := by unfold formB; rw [hsm2]
  have hfh := Lib.hid hf
  have hnm : n ≤ 9223372036854775807 := by unfold maxLen at hnc; omega
  clear hA hl hs1 hs2 hs3 hsm2 hf hnc
  cases sm
  · go_enter Tryz.func38, Tryz.ntmps38
    go_wp2_with (first
      | (go_at_call 33; refine hNo.out.mono ?_; rintro e w1 ⟨A1, n1, c1, vs1, rfl, h1, h2, h3, h4⟩; have hp := Lib.hid (And.intro (Nat.le_trans h1 h2) (And.intro h3 h4)); clear h1 h2 h3 h4)
      | (go_at_call 12; refine (hSm.out A1 n1 c1 vs1 _ hp.out.1 hp.out.2.2 hp.out.2.1).mono ?_; rintro e w2 ⟨rfl, hb2⟩; have hB2 := Lib.hid hb2; clear hb2))
    go_ret
    exact ⟨ret_bool (by rw [hfh.out]; rfl), hB2.out⟩
  · go_enter Tryz.func38, Tryz.ntmps38
    go_wp2_with (first
      | (go_at_call 33; refine hNo.out.mono ?_; rintro e w1 ⟨A1, n1, c1, vs1, rfl, h1, h2, h3, h4⟩; have hp := Lib.hid (And.intro (Nat.le_trans h1 h2) (And.intro h3 h4)); clear h1 h2 h3 h4)
      | (go_at_call 12; refine (hSm.out A1 n1 c1 vs1 _ hp.out.1 hp.out.2.2 hp.out.2.1).mono ?_; rintro e w2 ⟨rfl, hb2⟩; have hB2 := Lib.hid hb2; clear hb2)
      | (go_at_call 40; refine (hLi.out _ hB2.out).mono ?_; rintro e w3 ⟨A3, n3, c3, rr, rfl, h1, h2, h3, h4⟩; have hR := Lib.hid (And.intro (Nat.le_trans h1 h2) h3); have hB3 := Lib.hid (hB2.out.trans (h4.mono hB2.out.size)); clear h1 h2 h3 h4))
    have hn3 : n3 ≤ 9223372036854775807 := by have := hR.out.1; unfold maxLen at this; omega
    go_loopw [4] (fun s4 wr => ∃ i : Nat, i ≤ n3 ∧ s4 = .int .i64 i ∧ Hid (((listsP ps).take i).all mayB = true) ∧ Hid (Below w3.heap.size w3 wr)) (fun s4 _ => n3 - (intOf s4).toNat)
    case atStart => exact ⟨0, Nat.zero_le _, rfl, Lib.hid rfl, Lib.hid (Below.refl _ _)⟩
    case round =>
      obtain ⟨i, hi, rfl, hq, hB⟩ := hrel
      obtain ⟨wo, rfl⟩ : ∃ wo : World, wo = wr := ⟨_, rfl⟩
      by_cases hlt : i < n3
      · obtain ⟨b, o, A4, n4, c4, d, rfl, hb, hd, hr, hc, hnc4, hcm4, hst⟩ := (hR.out.2.up hB.out).at_ (k := i) hlt
        have i1 : (0 : Int) ≤ (i : Int) := by omega
        have i2 : (i : Int) < (n3 : Int) := by omega
        have hM := hMa.out A4 n4 c4 d wo (Nat.le_trans hnc4 hcm4) (List.mem_of_getElem? hd) hst
        obtain ⟨m, hm⟩ : ∃ m, mayB d = m := ⟨_, rfl⟩
        rw [hm] at hM
        have hMh := Lib.hid hM
        have hdh := Lib.hid hd
        have hmh := Lib.hid hm
        clear hd hr hst hM hm hnc4 hcm4
        cases m
        · have hno : Hid ((listsP ps).all mayB = false) := Lib.hid (by rw [List.all_eq_false]; exact ⟨d, List.mem_of_getElem? hdh.out, by rw [hmh.out]; simp⟩)
          go_wp2_with (go_at_call 64; refine hMh.out.mono ?_; rintro e w5 ⟨rfl, q, rfl⟩)
          go_ret
          exact ⟨ret_bool (by rw [hfh.out, hno.out]; rfl), hB3.out.trans ((below_drewN hB.out q).mono hB3.out.size)⟩
        · have hnx := Lib.hid (show ((listsP ps).take (i + 1)).all mayB = true by rw [take_at hdh.out, List.all_append, hq.out]; simp [hmh.out])
          go_wp2_with (go_at_call 64; refine hMh.out.mono ?_; rintro e w5 ⟨rfl, q, rfl⟩)
          go_roundw
          case rel => exact ⟨i + 1, by omega, by go_num, hnx, Lib.hid (below_drewN hB.out q)⟩
          case measure => simp [intOf]; omega
      · obtain rfl : i = n3 := by omega
        have hall : Hid ((listsP ps).all mayB = true) := Lib.hid (by have := hq.out; rw [List.take_of_length_le (by rw [hR.out.2.len]; exact Nat.le_refl _)] at this; exact this)
        have hBo := Lib.hid (hB3.out.trans (hB.out.mono hB3.out.size))
        go_wp2
        go_loopw [5] (fun s5 wr => ∃ i : Nat, (i = 0 ∨ i < n) ∧ s5 = .int .i64 i ∧ Hid (∀ j p, j < i → ps[j]? = some p → openB p.2.1 = false) ∧ wr = wo) (fun s5 _ => n - (intOf s5).toNat)
        case atStart => exact ⟨0, .inl rfl, rfl, Lib.hid (fun j p h => absurd h (by omega)), rfl⟩
        case round =>
          obtain ⟨k, hk, rfl, hq2, rfl⟩ := hrel
          have k1' : IntKind.i64.wrap ((k : Int) + 1) = ((k + 1 : Nat) : Int) := by rw [IntWalk.i64_in _ (by omega)]; omega
          by_cases hlt : k + 1 < n
          · obtain ⟨b, o, cf, At, nt, ct, Ab, nb, cb, As, ns, cs, t, bs, ss, rfl, hb, hv, hp2, k1, k2, k3, k4, j1, -, -⟩ := (hAh.out.up hBo.out).at_ (k := k) (by omega)
            have i1 : (0 : Int) ≤ (k : Int) := by omega
            have i2 : (k : Int) < (n : Int) := by omega
            have i3 : (k : Int) + 1 < (n : Int) := by omega
            have hO := hOp.out At nt ct t wr (Nat.le_trans j1.1 j1.2.1) (mem_lists.2 ⟨_, List.mem_of_getElem? hp2, .inl rfl⟩) j1.2.2
            obtain ⟨m, hm⟩ : ∃ m, openB t = m := ⟨_, rfl⟩
            rw [hm] at hO
            have hOh := Lib.hid hO
            have hph := Lib.hid hp2
            have hmh := Lib.hid hm
            clear hp2 hv j1 hO hm k1 k3 k4
            cases m
            · have hnx : Hid (∀ j p, j < k + 1 → ps[j]? = some p → openB p.2.1 = false) := Lib.hid (fun j p hj hpj => by
                rcases Nat.lt_or_ge j k with h | h
                · exact hq2.out j p h hpj
                · obtain rfl : j = k := by omega
                  rw [hph.out] at hpj
                  injection hpj with hpj
                  subst hpj
                  exact hmh.out)
              go_wp2_with (go_at_call 65; refine hOh.out.mono ?_; rintro e w5 ⟨rfl, rfl⟩)
              go_roundw
              case rel => exact ⟨k + 1, .inr (by omega), by go_num, hnx, trivial⟩
              case measure => simp [intOf]; omega
            · have hno := Lib.hid (dropLast_no (fun p : Pc => !openB p.2.1) hlh.out hlt hph.out (by dsimp only; rw [hmh.out]; rfl))
              go_wp2_with (go_at_call 65; refine hOh.out.mono ?_; rintro e w5 ⟨rfl, rfl⟩)
              go_ret
              exact ⟨ret_bool (by rw [hfh.out, hall.out, hno.out]; rfl), hBo.out⟩
          · have i3 : ¬ (k : Int) + 1 < (n : Int) := by omega
            have hyes := Lib.hid (dropLast_all (fun p : Pc => !openB p.2.1) hlh.out (fun j p hj hpj => by
              show (!openB p.2.1) = true
              rw [hq2.out j p (by omega) hpj]
              rfl))
            go_wp2
            go_ret
            exact ⟨ret_bool (by rw [hfh.out, hall.out, hyes.out]; rfl), hBo.out⟩
end Go.Proofs.YtcpopnhnihbofaaGreatDoor
