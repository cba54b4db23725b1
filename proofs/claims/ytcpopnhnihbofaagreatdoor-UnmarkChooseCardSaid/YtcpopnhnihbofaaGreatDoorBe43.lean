/- Proved here: texts joined: UnFew, UnLawC, ConChoose, ChPure, PickCh. -/
import Derived.Test.YtcpopnhnihbofaaGreatDoorBe01
import Derived.Test.YtcpopnhnihbofaaGreatDoorBe03
import Derived.Test.YtcpopnhnihbofaaGreatDoorBe07
import Derived.Test.YtcpopnhnihbofaaGreatDoorBe11
import Derived.Test.YtcpopnhnihbofaaGreatDoorBe12
import Derived.Test.YtcpopnhnihbofaaGreatDoorBe13
import Derived.Test.YtcpopnhnihbofaaGreatDoorBe21
import Derived.Deep.DeepCutAuto
import Derived.Outline
/- Proved here, without conditions on the program: what is read of few texts is neither much nor long (layer 13). -/
namespace Go.Proofs.YtcpopnhnihbofaaGreatDoor
set_option linter.unusedVariables false
set_option maxRecDepth 100000

/-- A list of few texts. -/
def FewD (i : Nat) (d : Txs) : Prop := d.length ≤ i ∧ ∀ t ∈ d, t.length ≤ 100
theorem FewD.nil (i : Nat) : FewD i [] := ⟨Nat.zero_le _, fun t ht => (nomatch ht)⟩
theorem FewD.up {i : Nat} {d : Txs} (h : FewD i d) : FewD (i + 1) d := ⟨Nat.le_succ_of_le h.1, h.2⟩
theorem FewD.put {i : Nat} {d : Txs} {t : Tx} (h : FewD i d) (ht : t.length ≤ 100) : FewD (i + 1) (d ++ [t]) := ⟨by rw [List.length_append]; have := h.1; simp; omega, fun x hx => by
  rcases List.mem_append.1 hx with hx | hx
  · exact h.2 x hx
  · rw [List.mem_singleton.1 hx]; exact ht⟩
theorem FewD.opened {i : Nat} {d q : Txs} {ex : Bool} (h : FewD i d) (ho : openT ex d = some q) : FewD i q := by
  unfold openT at ho
  split at ho
  · split at ho
    · rename_i s hs
      split at ho
      · cases ho
      · injection ho with ho
        subst ho
        have hm := List.mem_of_getLast? hs
        have hne : d ≠ [] := fun e => by rw [e] at hm; cases hm
        refine ⟨?_, fun t ht => ?_⟩
        · rw [List.length_append, List.length_dropLast]
          have := h.1
          have := List.length_pos_iff.2 hne
          simp
          omega
        · rcases List.mem_append.1 ht with ht | ht
          · exact h.2 t (List.dropLast_subset _ ht)
          · rw [List.mem_singleton.1 ht, List.length_dropLast]
            have := h.2 s hm
            omega
    · cases ho
  · injection ho with ho
    subst ho
    exact h

/-- What is read so far, of i texts. -/
structure FewS (s : MSt) (i : Nat) : Prop where
  out : ∀ d ∈ listsP s.out, FewD i d
  cur : FewD i s.cur
  conf : ∀ isB b ds, s.conf = some (isB, b, ds) → FewD i b ∧ ∀ d ∈ ds, FewD i d
  free : s.conf = none → 3 * s.out.length + (if s.cur = [] then 0 else 2) ≤ 2 * i
  held : s.conf ≠ none → 3 * s.out.length + 1 ≤ 2 * i
theorem FewS.start : FewS startM 0 := ⟨fun d hd => (nomatch hd), FewD.nil _, fun _ _ _ h => (nomatch h), fun _ => Nat.le_refl _, fun h => absurd rfl h⟩
theorem lists_put {out : List Pc} {p : Pc} {d : Txs} (h : d ∈ listsP (out ++ [p])) : d ∈ listsP out ∨ d = p.2.1 ∨ d = p.2.2.1 ∨ d ∈ p.2.2.2 := by
  obtain ⟨q, hq, hx⟩ := mem_lists.1 h
  rcases List.mem_append.1 hq with hq | hq
  · exact .inl (mem_lists.2 ⟨q, hq, hx⟩)
  · rw [List.mem_singleton.1 hq] at hx
    exact .inr hx
theorem FewS.flush {s : MSt} {i : Nat} (h : FewS s i) : ∀ d ∈ listsP (flushM s.out s.cur), FewD i d := fun d hd => by
  unfold flushM at hd
  split at hd
  · exact h.out d hd
  · rcases lists_put hd with hd | hd | hd | hd
    · exact h.out d hd
    · rw [hd]; exact h.cur
    · rw [hd]; exact FewD.nil _
    · cases hd
theorem flush_len (out : List Pc) (cur : Txs) : 3 * (flushM out cur).length ≤ 3 * out.length + (if cur = [] then 0 else 2) + 1 := by
  unfold flushM
  split
  · omega
  · rw [List.length_append]; simp; omega
theorem FewS.step {s s' : MSt} {i long : Nat} {t : Tx} {last : Bool} (h : FewS s i) (ht : t.length ≤ 100) (hs : stepM long s t last = some s') : FewS s' (i + 1) := by
  unfold stepM at hs
  have hU := fun d hd => (h.out d hd).up
  cases hc : s.conf with
  | none =>
    rw [hc] at hs
    dsimp only at hs
    have hf := h.free hc
    split at hs
    · split at hs
      · injection hs with hs
        subst hs
        have hl := flush_len s.out s.cur
        exact ⟨fun d hd => (h.flush d hd).up, FewD.nil _, fun isB b ds e => by
          injection e with e
          injection e with e1 e2
          injection e2 with e2 e3
          subst e2
          subst e3
          exact ⟨FewD.nil _, fun d hd => (nomatch hd)⟩, fun e => (nomatch e), fun _ => by dsimp only; omega⟩
      · cases hs
    · split at hs
      · injection hs with hs
        subst hs
        refine ⟨hU, h.cur.put ht, fun isB b ds e => (nomatch e), fun _ => ?_, fun e => absurd rfl e⟩
        dsimp only
        rw [if_neg (by simp)]
        omega
      · cases hs
  | some x =>
    obtain ⟨isB, b, ds⟩ := x
    rw [hc] at hs
    dsimp only at hs
    have hf := h.held (by rw [hc]; exact fun e => (nomatch e))
    obtain ⟨hb, hds⟩ := h.conf isB b ds hc
    have hnew : ∀ (q : Txs) (ex : Bool), openT ex s.cur = some q → FewD (i + 1) (if isB = true then (q, ds) else (b, ds ++ [q])).1 ∧ ∀ d ∈ (if isB = true then (q, ds) else (b, ds ++ [q])).2, FewD (i + 1) d := fun q ex ho => by
      have hq := (h.cur.opened ho).up
      split
      · exact ⟨hq, fun d hd => (hds d hd).up⟩
      · refine ⟨hb.up, fun d hd => ?_⟩
        rcases List.mem_append.1 hd with hd | hd
        · exact (hds d hd).up
        · rw [List.mem_singleton.1 hd]; exact hq
    have hmid : ∀ (q : Txs) (ex : Bool) (st : Int) (f : Bool), openT ex s.cur = some q → FewS ⟨s.out, [], st, some (f, (if isB = true then (q, ds) else (b, ds ++ [q])).1, (if isB = true then (q, ds) else (b, ds ++ [q])).2)⟩ (i + 1) := fun q ex st f ho => by
      obtain ⟨n1, n2⟩ := hnew q ex ho
      exact ⟨hU, FewD.nil _, fun isB' b' ds' e => by
        injection e with e
        injection e with e1 e2
        injection e2 with e2 e3
        subst e2
        subst e3
        exact ⟨n1, n2⟩, fun e => (nomatch e), fun _ => by dsimp only; omega⟩
    split at hs
    · unfold markStep at hs
      dsimp only at hs
      split at hs
      · split at hs
        · rename_i ex _ _
          obtain ⟨q, ho, rfl⟩ := Option.map_eq_some_iff.1 hs
          exact hmid q ex 2 true ho
        · cases hs
      · split at hs
        · cases hs
        · generalize (if (!isB && ds.isEmpty) = true then (1 : Int) else s.style) = st at hs
          split at hs
          · rename_i ex _
            obtain ⟨q, ho, rfl⟩ := Option.map_eq_some_iff.1 hs
            exact hmid q ex st false ho
          · split at hs
            · rename_i ex _
              obtain ⟨q, ho, rfl⟩ := Option.map_eq_some_iff.1 hs
              obtain ⟨n1, n2⟩ := hnew q ex ho
              refine ⟨fun d hd => ?_, FewD.nil _, fun isB b ds e => (nomatch e), fun _ => ?_, fun e => absurd rfl e⟩
              · rcases lists_put hd with hd | hd | hd | hd
                · exact hU d hd
                · rw [hd]; exact FewD.nil _
                · rw [hd]; exact n1
                · exact n2 d hd
              · dsimp only
                rw [List.length_append, if_pos rfl]
                simp
                omega
            · cases hs
    · split at hs
      · injection hs with hs
        subst hs
        refine ⟨hU, h.cur.put ht, fun isB' b' ds' e => ?_, fun e => (nomatch e), fun _ => by dsimp only; omega⟩
        injection e with e
        injection e with e1 e2
        injection e2 with e2 e3
        subst e2
        subst e3
        exact ⟨hb.up, fun d hd => (hds d hd).up⟩
      · cases hs
theorem walk_few {long : Nat} : ∀ {l : Txs} {s s' : MSt} {i k : Nat}, FewS s i → (∀ t ∈ l, t.length ≤ 100) → walkM long s l k = .ok s' → FewS s' (i + l.length) ∧ s'.conf = none
  | [], s, s', i, k, h, _, hw => by
    unfold walkM at hw
    split at hw
    · cases hw
    · rename_i hc
      injection hw with hw
      subst hw
      exact ⟨h, by simpa using hc⟩
  | t :: r, s, s', i, k, h, hl, hw => by
    unfold walkM at hw
    cases hs : stepM long s t r.isEmpty with
    | none => rw [hs] at hw; cases hw
    | some s1 =>
      rw [hs] at hw
      dsimp only at hw
      have := walk_few (h.step (hl t (List.mem_cons_self ..)) hs) (fun t ht => hl t (List.mem_cons_of_mem _ ht)) hw
      rw [List.length_cons]
      rwa [show i + (r.length + 1) = i + 1 + r.length by omega]
/-- WHAT IS READ OF FEW TEXTS MAY BE PRINTED. -/
theorem walk_W {long : Nat} {l : Txs} {s : MSt} {k : Nat} (h1 : 1 ≤ long) (h2 : long ≤ 4096) (hn : l.length ≤ 40) (hl : ∀ t ∈ l, t.length ≤ 100) (hw : walkM long startM l k = .ok s) : smallW (flushM s.out s.cur) := by
  obtain ⟨-, -, hno⟩ := walk_one h1 h2 hw
  obtain ⟨-, g2, g3, -, -⟩ := wrongM_none.1 hno
  obtain ⟨f1, -⟩ := formB_form g3
  obtain ⟨hS, hc⟩ := walk_few FewS.start hl hw
  rw [Nat.zero_add] at hS
  have hF := hS.flush
  have hlen := flush_len s.out s.cur
  have hfr := hS.free hc
  generalize flushM s.out s.cur = ps at g2 f1 hF hlen
  have hp : ∀ p ∈ ps, smallP p ∧ p.2.1.length ≤ 40 ∧ ∀ d ∈ p.2.2.2, d.length ≤ 40 := fun p hp => by
    have a1 := (hF p.2.1 (mem_lists.2 ⟨p, hp, .inl rfl⟩)).1
    have a2 := (hF p.2.2.1 (mem_lists.2 ⟨p, hp, .inr (.inl rfl)⟩)).1
    have a3 : ∀ d ∈ p.2.2.2, d.length ≤ 40 := fun d hd => by
      have := (hF d (mem_lists.2 ⟨p, hp, .inr (.inr hd)⟩)).1
      omega
    have a4 : p.2.2.2.length ≤ 16 := by
      cases hpc : p.1 with
      | true => exact (g2 p hp hpc).2
      | false =>
        rw [text_normal (by rw [← f1]; exact hp) hpc]
        simp [tPc]
    exact ⟨⟨by omega, by omega, fun d hd => by have := a3 d hd; omega, by omega⟩, by omega, a3⟩
  have hZ : smallZ ps := ⟨by omega, fun p h => (hp p h).1⟩
  have h100 : ∀ d ∈ listsP ps, ∀ x ∈ d, x.length ≤ 100 := fun d hd => (hF d hd).2
  have hsum : ∀ {qs : List Pc}, (∀ p ∈ qs, p.2.1.length ≤ 40 ∧ ∀ d ∈ p.2.2.2, d.length ≤ 40) → sumT (qs.flatMap trimD) ≤ qs.length * 80 := by
    intro qs
    induction qs with
    | nil => intro _; simp [sumT]
    | cons p qs ih =>
      intro hq
      have i1 := ih fun q hm => hq q (List.mem_cons_of_mem _ hm)
      obtain ⟨b1, b2⟩ := hq p (List.mem_cons_self ..)
      have e : sumT (trimD p ++ qs.flatMap trimD) = sumT (trimD p) + sumT (qs.flatMap trimD) := by simp [sumT]
      rw [List.flatMap_cons, List.length_cons, e]
      have h3 : sumT (trimD p) ≤ 80 := by
        obtain ⟨cf, t, bs, ss⟩ := p
        dsimp only at b1 b2
        have one : sumT (normal [(cf, t, bs, ss)]) ≤ 80 := by
          have := sumT_normal [(cf, t, bs, ss)]
          have e2 : sumT [(cf, t, bs, ss)] = t.length := by simp [sumT]
          omega
        cases cf with
        | false => exact one
        | true =>
          cases ss with
          | nil => exact one
          | cons f ds =>
            show sumT (normal (trimL bs f (f :: ds))) ≤ 80
            have c1 := sumT_normal (trimL bs f (f :: ds))
            have c2 := (trimL_sum (base := bs) (f := f) (ds := f :: ds)).1
            have c3 := b2 f (List.mem_cons_self ..)
            omega
      omega
  have hs := hsum fun p h => (hp p h).2
  refine ⟨⟨hZ, fun d hd x hx => by have := h100 d hd x hx; omega⟩, small_zeal hZ (by omega) (.inr (by omega)), fun d hd x hx => ?_⟩
  have := zeal_100 h100 d hd x hx
  omega
end Go.Proofs.YtcpopnhnihbofaaGreatDoor
/- Proved here: what the statement UnmarkOne says, by the contracts of packages mark and unmark. -/
namespace Go.Proofs.YtcpopnhnihbofaaGreatDoor
open Go.RowKit
set_option linter.unusedVariables false
set_option maxRecDepth 100000

theorem few_partsC {l : Txs} {k : Nat} (h : fewB l k = true) : l.length ≤ k ∧ ∀ t ∈ l, t.length ≤ 100 := by
  unfold fewB at h
  rw [Bool.and_eq_true, decide_eq_true_eq] at h
  refine ⟨h.1, fun t ht => ?_⟩
  have h2 := h.2
  rw [List.take_of_length_le (by omega), List.all_eq_true] at h2
  simpa using h2 t ht

section
variable (H : UnmParseOk) (H2 : MarkPrintOk)
include H H2

set_option maxHeartbeats 8000000 in
theorem UnmarkOne_walk (A : Option Addr) (n c : Nat) (l : Txs) (y : Nat) (w : World) (h0 : TxR w w.heap.size (A, n, c) l) (hy : y ≤ 255) :
    Calls Tryz.prog 4 #[.slice A n c, .int .u8 (y : Int)] w fun e w' => e = .returned (.bool true) ∧ Below w.heap.size w w' := by
  have haw := Lib.hid (unAwake_any H w)
  have hn : n ≤ maxLen := Nat.le_trans h0.1 h0.2.1
  have hl0 : l.length = n := h0.2.2.len
  obtain ⟨fm, hfm⟩ : ∃ fm, fewB l 40 = fm := ⟨_, rfl⟩
  have hF : Hid (∀ W, Below w.heap.size w W → Calls Tryz.prog 14 #[.slice A n c, .int .i64 40] W fun e w' => e = .returned (.bool fm) ∧ W = w') := Lib.hid (fun W hW => by
    have h := Few_any A n c 40 W.heap.size l W hn (by decide) (h0.up hW).2.2
    rw [hfm] at h
    exact h)
  cases fm
  · clear h0 hfm hn hl0
    go_enter Tryz.func4, Tryz.ntmps4
    go_wp2_with (first
      | (go_at_call 6; refine haw.out.mono ?_; rintro e w1 ⟨rfl, hb1⟩; have hB1 := Lib.hid hb1; clear hb1)
      | (go_at_call 14; refine (hF.out _ hB1.out).mono ?_; rintro e w2 ⟨rfl, rfl⟩))
    go_ret
    exact ⟨rfl, hB1.out⟩
  obtain ⟨k1, k2⟩ := few_partsC hfm
  obtain ⟨K, hK⟩ : ∃ K : Nat, 1 + y % 40 = K := ⟨_, rfl⟩
  obtain ⟨M, hM⟩ : ∃ M : Nat, y % 40 = M := ⟨_, rfl⟩
  have hMt : ((y : Int)).tmod 40 = (M : Int) := by rw [← hM]; exact Int.ofNat_tmod y 40 ▸ rfl
  have hNi : (1 : Int) + (M : Int) = (K : Int) := by omega
  have hwK : IntKind.i64.wrap (K : Int) = (K : Int) := IntWalk.i64_in _ (by omega)
  have hK1 : 1 ≤ K := by omega
  have hK40 : K ≤ 40 := by omega
  have hKr : inR64 (K : Int) := by unfold inR64; omega
  have hsl : smallL l := ⟨by omega, fun t ht => by have := k2 t ht; omega⟩
  have hPa : ∀ x, parseM l (K : Int) = x → ∀ W, Below w.heap.size w W → Calls Tryz.prog 9 #[.slice A n c, .int .i64 (K : Int)] W fun e w' => ParseA W w' e x := fun x hx W hb => by rw [← hx]; exact H A n c l K W hKr hsl (h0.up hb)
  have hres := parseM_res l K hK1 (by omega)
  cases hwl : walkM K startM l 0 with
  | error m =>
    rw [hwl] at hres
    have hP1 := Lib.hid (hPa _ hres)
    obtain ⟨hm1, hm2⟩ := walk_bounds hwl
    rw [hl0] at hm2
    have hi1 : (1 : Int) ≤ (m : Int) := by omega
    have hi2 : (m : Int) ≤ ((n + 1 : Nat) : Int) := by omega
    have hi3 : (n : Int) + 1 = ((n + 1 : Nat) : Int) := by omega
    have hi4 : IntKind.i64.wrap ((n + 1 : Nat) : Int) = ((n + 1 : Nat) : Int) := IntWalk.i64_in _ (by omega)
    obtain ⟨N, hN⟩ : ∃ N, n + 1 = N := ⟨_, rfl⟩
    rw [hN] at hi2 hi3 hi4
    clear h0 hfm hn hl0 hres hwl hK hM hPa hsl k1 k2 hKr hm1 hm2 hN
    go_enter Tryz.func4, Tryz.ntmps4
    go_wp2_with (first
      | (go_at_call 6; refine haw.out.mono ?_; rintro e w1 ⟨rfl, hb1⟩; have hB1 := Lib.hid hb1; clear hb1)
      | (go_at_call 14; refine (hF.out _ hB1.out).mono ?_; rintro e w2 ⟨rfl, hw2⟩; subst hw2)
      | (go_at_call 9; refine (hP1.out _ hB1.out).mono ?_; rintro e w3 ⟨A1, n1, c1, vs1, rfl, q1, q2, q3, q4⟩; have hz : n1 = 0 := q3.len.symm; subst hz; have hB3 := Lib.hid (hB1.out.trans (q4.mono hB1.out.size)); clear q1 q2 q3 q4))
    go_ret
    exact ⟨rfl, hB3.out⟩
  | ok s =>
    rw [hwl] at hres
    have hP1 := Lib.hid (hPa _ hres)
    obtain ⟨hs0, hs1, hs2⟩ := walk_one hK1 (by omega) hwl
    have hW := walk_W hK1 (by omega) k1 k2 hwl
    have hP1 : Hid (∀ W, Below w.heap.size w W → Calls Tryz.prog 9 #[.slice A n c, .int .i64 (K : Int)] W fun e w' => ParseA W w' e (flushM s.out s.cur, max s.style 1, 0, 0)) := hP1
    obtain ⟨ps, hps⟩ : ∃ ps, flushM s.out s.cur = ps := ⟨_, rfl⟩
    obtain ⟨st, hst⟩ : ∃ st, max s.style 1 = st := ⟨_, rfl⟩
    rw [hps, hst] at hP1 hs1 hs2
    rw [hps] at hW
    have hst2 : st = 1 ∨ st = 2 := by omega
    have hpr : printM ps st (K : Int) = l := by
      unfold printM
      rw [if_pos hs2, if_neg (by omega), Int.toNat_natCast, hs1]
    have hM : Hid (∀ (A1 : Option Addr) (n1 c1 : Nat) (vs : List PcV) (W : World), n1 ≤ c1 → c1 ≤ maxLen → Pcs W W.heap.size A1 n1 vs ps → Calls Tryz.prog 8 #[.slice A1 n1 c1, .int .i64 st, .int .i64 (K : Int)] W fun e w' => PrintA W w' e l 0) := Lib.hid (fun A1 n1 c1 vs W a1 a2 a3 => by
      have h := H2 A1 n1 c1 vs ps st K W a1 a2 (by unfold inR64; omega) hKr hW a3
      rwa [hpr, hs2] at h)
    have hSa := Lib.hid (fun (A1 A2 : Option Addr) (n1 c1 n2 c2 : Nat) (W : World) (h1 : TxR W W.heap.size (A1, n1, c1) l) (h2 : TxR W W.heap.size (A2, n2, c2) l) => Same_any A1 A2 n1 n2 c1 c2 W.heap.size W.heap.size l l W (Nat.le_trans h1.1 h1.2.1) (Nat.le_trans h2.1 h2.2.1) h1.2.2 h2.2.2)
    rw [decide_eq_true (rfl : l = l)] at hSa
    have hT : Hid (∀ W, Below w.heap.size w W → TxR W W.heap.size (A, n, c) l) := Lib.hid (fun W hb => h0.up hb)
    clear h0 hfm hn hl0 hres hwl hK hPa hsl k1 k2 hKr hs0 hs1 hs2 hW hps hst hst2 hpr
    go_enter Tryz.func4, Tryz.ntmps4
    go_wp2_with (first
      | (go_at_call 6; refine haw.out.mono ?_; rintro e w1 ⟨rfl, hb1⟩; have hB1 := Lib.hid hb1; clear hb1)
      | (go_at_call 14; refine (hF.out _ hB1.out).mono ?_; rintro e w2 ⟨rfl, hw2⟩; subst hw2)
      | (go_at_call 9; refine (hP1.out _ hB1.out).mono ?_; rintro e w3 ⟨A1, n1, c1, vs1, rfl, q1, q2, q3, q4⟩; have hP := Lib.hid (And.intro q1 (And.intro q2 q3)); have hB3 := Lib.hid (hB1.out.trans (q4.mono hB1.out.size)); clear q1 q2 q3 q4)
      | (go_at_call 8; refine (hM.out A1 n1 c1 vs1 _ hP.out.1 hP.out.2.1 hP.out.2.2).mono ?_; rintro e w4 ⟨A2, n2, c2, rfl, q1, q2⟩; have hT2 := Lib.hid q1; have hB4 := Lib.hid (hB3.out.trans (q2.mono hB3.out.size)); clear q1 q2)
      | (go_at_call 15; refine (hSa.out A2 A n2 c2 n c _ hT2.out (hT.out _ hB4.out)).mono ?_; rintro e w5 ⟨rfl, q5, rfl⟩))
    go_ret
    exact ⟨rfl, below_drewN hB4.out q5⟩
end
end Go.Proofs.YtcpopnhnihbofaaGreatDoor
/- What the statements ask of pick.Choose. -/
namespace Go.Proofs.YtcpopnhnihbofaaGreatDoor
open Go.RowKit
set_option linter.unusedVariables false

/-- The contract of pick.Choose. -/
def PickChooseOk : Prop := ∀ (A : Option Addr) (n c : Nat) (vs : List PcV) (ps : List Pc) (z : Int) (w : World), n ≤ c → c ≤ maxLen → n ≤ 10000 → inR64 z → (choose ps z).length ≤ 1000000 → Pcs w w.heap.size A n vs ps →
    Calls Tryz.prog 16 #[.slice A n c, .int .i64 z] w fun e w' => TxsOut w w' e (choose ps z)
end Go.Proofs.YtcpopnhnihbofaaGreatDoor
/- Proved here, without conditions: plain facts on what is chosen, piece by piece. -/
namespace Go.Proofs.YtcpopnhnihbofaaGreatDoor
set_option linter.unusedVariables false

theorem choose_snoc {ps : List Pc} {i : Nat} {p : Pc} (n : Int) (h : ps[i]? = some p) : choose (ps.take (i + 1)) n = choose (ps.take i) n ++ chosen n p := by
  rw [take_at h]
  unfold choose
  rw [List.flatMap_append]
  simp
theorem choose_pre (ps : List Pc) (n : Int) (i : Nat) : (choose (ps.take i) n).length ≤ (choose ps n).length := by
  conv => rhs; rw [← List.take_append_drop i ps]
  unfold choose
  rw [List.flatMap_append, List.length_append]
  omega
/-- What is chosen among the sides, as far as place k. -/
def chosenTo (n : Int) (ss : List Txs) (k : Nat) : Txs := if 1 ≤ n ∧ (n - 1).toNat < k then (ss[(n - 1).toNat]?).getD [] else []
theorem chosenTo_step {n : Int} {ss : List Txs} {k : Nat} {x : Txs} (h : ss[k]? = some x) : chosenTo n ss (k + 1) = if (k : Int) = n - 1 then chosenTo n ss k ++ x else chosenTo n ss k := by
  unfold chosenTo
  by_cases e : (k : Int) = n - 1
  · have e1 : (n - 1).toNat = k := by omega
    rw [if_pos e, if_pos (by omega), if_neg (by omega), e1, h]
    rfl
  · rw [if_neg e]
    by_cases h2 : 1 ≤ n ∧ (n - 1).toNat < k
    · rw [if_pos (by omega), if_pos h2]
    · rw [if_neg (by omega), if_neg h2]
theorem chosenTo_end (n : Int) (t bs : Txs) (ss : List Txs) : chosenTo n ss ss.length = chosen n (true, t, bs, ss) := by
  unfold chosenTo chosen
  simp only [if_true]
  by_cases h : 1 ≤ n
  · by_cases h2 : (n - 1).toNat < ss.length
    · rw [if_pos ⟨h, h2⟩, if_pos h]
    · rw [if_neg (by omega), if_pos h, List.getElem?_eq_none (by omega)]
      rfl
  · rw [if_neg (by omega), if_neg h]
theorem chosenTo_len (n : Int) (t bs : Txs) (ss : List Txs) (k : Nat) : (chosenTo n ss k).length ≤ (chosen n (true, t, bs, ss)).length := by
  unfold chosenTo chosen
  simp only [if_true]
  by_cases h : 1 ≤ n
  · rw [if_pos h]
    split
    · exact Nat.le_refl _
    · simp
  · rw [if_neg (by omega)]; simp
end Go.Proofs.YtcpopnhnihbofaaGreatDoor
/- Proved here: the contract of the document's own answer of layer 7: Choose. -/
namespace Go.Proofs.YtcpopnhnihbofaaGreatDoor
open Go.RowKit
set_option linter.unusedVariables false

set_option maxRecDepth 100000 in
set_option maxHeartbeats 4000000 in
theorem rChoose_any (A : Option Addr) (n c : Nat) (vs : List PcV) (ps : List Pc) (z : Int) (w : World) (hn : n ≤ maxLen) (hz : inR64 z) (hsum : (choose ps z).length ≤ 1000000000) (hA : Pcs w w.heap.size A n vs ps) :
    Calls Tryz.prog 17 #[.slice A n c, .int .i64 z] w fun e w' => TxsOut w w' e (choose ps z) := by
  have hl := hA.len
  obtain ⟨i0, hi, hzz⟩ := Option.map_eq_some_iff.1 infoStr
  simp only [Prod.mk.injEq] at hzz
  obtain ⟨hz0, hz1, hz2⟩ := hzz
  have hAh := Lib.hid hA
  have hsumh := Lib.hid hsum
  have hzh := Lib.hid hz
  have hst : Hid (TxO w w (.slice none 0 0) (choose (ps.take 0) z)) := Lib.hid ⟨World.ownsRow_nil _ _ _ _, Below.refl _ _⟩
  unfold maxLen at hn
  clear hA hsum hz
  go_enter Tryz.func17, Tryz.ntmps17
  go_wp2
  go_loopw [5, 6, 7] (fun s5 s6 _ wr => ∃ (i : Nat) (v : Value), i ≤ n ∧ v = s5 ∧ s6 = .int .i64 i ∧ Hid (TxO w wr v (choose (ps.take i) z))) (fun _ s6 _ _ => n - (intOf s6).toNat)
  case atStart => exact ⟨0, _, Nat.zero_le _, rfl, rfl, hst⟩
  case round =>
    obtain ⟨i, v, hin, rfl, rfl, hT⟩ := hrel
    obtain ⟨wo, rfl⟩ : ∃ wo : World, wo = wr := ⟨_, rfl⟩
    clear hst
    by_cases hlt : i < n
    · obtain ⟨b, o, cf, At, nt, ct, Ab, nb, cb, As, ns, cs, t, bs, ss, rfl, hb, hv, hp, k1, k2, k3, k4, ⟨j1, j2, j3⟩, -, ⟨j4, j5, rr, j6⟩⟩ := (hAh.out.below hT.out.below).at_ (k := i) hlt
      have i1 : (0 : Int) ≤ (i : Int) := by omega
      have i2 : (i : Int) < (n : Int) := by omega
      have hsn := Lib.hid (choose_snoc z hp)
      have hpre1 := choose_pre ps z (i + 1)
      rw [choose_snoc z hp, List.length_append] at hpre1
      have hown := hT.out.own
      have hbe := hT.out.below
      obtain ⟨m, hm⟩ : ∃ m, (choose (ps.take i) z).length = m := ⟨_, rfl⟩
      dsimp only at j1 j2 j3 j4 j5 j6
      cases cf
      · have hlt2 := j3.len
        have hch : chosen z (false, t, bs, ss) = t := rfl
        rw [hch] at hpre1
        have hsn2 : Hid (choose (ps.take (i + 1)) z = choose (ps.take i) z ++ t) := hsn
        have hle : Hid ((choose (ps.take i) z).length + nt ≤ maxLen ∧ ((choose (ps.take i) z).length + nt) * 16 ≤ 140737488355328) := Lib.hid (by have := hsumh.out; unfold maxLen; omega)
        have hlth := Lib.hid hlt2
        clear hp hv hpre1 hch hsn hm
        go_wp2_with (at_builtin; refine wpList_append_reads _ rfl _ _ 25 rfl w.heap.size 9 i0 (.string ByteArray.empty) 16 Tryz.underlying25 hi hz0 hz1 hz2 rfl v (choose (ps.take i) z).length _ rfl hown w.heap.size At nt ct _ rfl j3 (strs_one _) hle.out.1 hle.out.2 hbe.size ?_; intro v' w2 hown2 hg2; have hfin := Lib.hid (hT.out.put hlth.out hown2 hg2); have hBw2 := hfin.out.below; have k1' : w2.cell? ⟨b, o + i * 4, none⟩ = some (.bool false) := (hBw2.cell (p := ⟨b, o + i * 4, none⟩) hb).trans ((hbe.cell (p := ⟨b, o + i * 4, none⟩) hb).symm.trans k1))
        go_loopw [5, 7] (fun s5 s7 wr => s5 = v' ∧ s7 = .int .i64 0 ∧ wr = w2) (fun _ _ _ => 0)
        case atStart => exact ⟨rfl, rfl, rfl⟩
        case round =>
          obtain ⟨rfl, rfl, rfl⟩ := hrel
          go_wp2
          go_roundw
          case rel => exact ⟨i + 1, _, by omega, rfl, by go_num, Lib.hid (by rw [hsn2.out]; exact hfin.out)⟩
          case measure => simp [intOf]; omega
      · have hpre : Hid (∀ k, (chosenTo z ss k).length ≤ (chosen z (true, t, bs, ss)).length) := Lib.hid (fun k => chosenTo_len z t bs ss k)
        have hssl := j6.len
        have hend : Hid (chosenTo z ss ns = chosen z (true, t, bs, ss)) := Lib.hid (by rw [← hssl]; exact chosenTo_end z t bs ss)
        have hpre1h := Lib.hid hpre1
        have h00 : Hid (TxO w wo v (choose (ps.take i) z ++ chosenTo z ss 0)) := Lib.hid (by
          have : chosenTo z ss 0 = [] := by unfold chosenTo; rw [if_neg (by omega)]
          rw [this, List.append_nil]; exact hT.out)
        have hRr : Hid (∀ W, Below w.heap.size w W → RowsT W w.heap.size As ns rr ss ∧ W.cell? ⟨b, o + i * 4, none⟩ = some (.bool true) ∧ W.cell? ⟨b, o + i * 4 + 3, none⟩ = some (.slice As ns cs)) := Lib.hid (fun W hW => by
          have key : ∀ q : Addr, q.block < w.heap.size → W.cell? q = wo.cell? q := fun q hq => (hW.cell hq).trans (hbe.cell hq).symm
          exact ⟨j6.keep key, (key ⟨b, o + i * 4, none⟩ hb).trans k1, (key ⟨b, o + i * 4 + 3, none⟩ hb).trans k4⟩)
        have hnb : ns ≤ 9223372036854775807 := by unfold maxLen at j5; omega
        clear hp hv hpre1 hm hown hbe j6 k2 k3 k4 hT
        go_wp2
        go_loopw [5, 7] (fun s5 s7 wr => ∃ (k : Nat) (v : Value), k ≤ ns ∧ v = s5 ∧ s7 = .int .i64 k ∧ Hid (TxO w wr v (choose (ps.take i) z ++ chosenTo z ss k))) (fun _ s7 _ => ns - (intOf s7).toNat)
        case atStart => exact ⟨0, _, Nat.zero_le _, rfl, rfl, h00⟩
        case round =>
          obtain ⟨k, v, hk, rfl, rfl, hT⟩ := hrel
          obtain ⟨wp, rfl⟩ : ∃ wp : World, wp = wr := ⟨_, rfl⟩
          clear h00
          obtain ⟨hRk, c1, c2⟩ := hRr.out wp hT.out.below
          by_cases hlt3 : k < ns
          · obtain ⟨b2, o2, A2, n2, c2', x, rfl, hb2, hx, -, hc2, hnc, hcm, hst2⟩ := hRk.at_ (k := k) hlt3
            have hstp := Lib.hid (chosenTo_step (n := z) hx)
            have hwr := wrap_pred (n := z) hzh.out hlt3 hnb
            have i3 : (0 : Int) ≤ (k : Int) := by omega
            have i4 : (k : Int) < (ns : Int) := by omega
            have hxl := Lib.hid hst2.len
            clear hx hRk
            by_cases hkz : (k : Int) = z - 1
            · have hd : ((k : Int) == wrap64 (z - 1)) = true := by rw [← IntWalk.i64_left, hwr]; simpa using hkz
              have hstq : Hid (chosenTo z ss (k + 1) = chosenTo z ss k ++ x) := Lib.hid (by rw [hstp.out, if_pos hkz])
              have hown := hT.out.own
              have hbz := hT.out.below.size
              have hle : Hid ((choose (ps.take i) z ++ chosenTo z ss k).length + n2 ≤ maxLen ∧ ((choose (ps.take i) z ++ chosenTo z ss k).length + n2) * 16 ≤ 140737488355328) := Lib.hid (by
                have h1 := hpre1h.out
                have h2 := hpre.out (k + 1)
                rw [hstq.out, List.length_append] at h2
                have h3 := hsumh.out
                have h4 := hxl.out
                rw [List.length_append]
                unfold maxLen
                omega)
              clear hwr hkz
              go_wp2_with (at_builtin; refine wpList_append_reads _ rfl _ _ 25 rfl w.heap.size 9 i0 (.string ByteArray.empty) 16 Tryz.underlying25 hi hz0 hz1 hz2 rfl v (choose (ps.take i) z ++ chosenTo z ss k).length _ rfl hown w.heap.size A2 n2 c2' _ rfl hst2 (strs_one _) hle.out.1 hle.out.2 hbz ?_; intro v' w2 hown2 hg2; have hfin := Lib.hid (hT.out.put hxl.out hown2 hg2))
              go_roundw
              case rel => exact ⟨k + 1, v', by omega, rfl, by go_num, Lib.hid (by rw [hstq.out, ← List.append_assoc]; exact hfin.out)⟩
              case measure => simp [intOf]; omega
            · have hd : ((k : Int) == wrap64 (z - 1)) = false := by rw [← IntWalk.i64_left, hwr]; simpa using hkz
              have hstq : Hid (chosenTo z ss (k + 1) = chosenTo z ss k) := Lib.hid (by rw [hstp.out, if_neg hkz])
              clear hwr hkz
              go_wp2
              go_roundw
              case rel => exact ⟨k + 1, v, by omega, rfl, by go_num, Lib.hid (by rw [hstq.out]; exact hT.out)⟩
              case measure => simp [intOf]; omega
          · obtain rfl : k = ns := by omega
            go_wp2
            go_roundw
            case rel => exact ⟨i + 1, v, by omega, rfl, by go_num, Lib.hid (by rw [hsn.out, ← hend.out]; exact hT.out)⟩
            case measure => simp [intOf]; omega
    · obtain rfl : i = n := by omega
      go_wp2
      go_ret
      have ht : ps.take i = ps := List.take_of_length_le (by omega)
      have := hT.out.out
      rw [ht] at this
      exact this
end Go.Proofs.YtcpopnhnihbofaaGreatDoor
