/- Proved here: texts joined: MkBe, ZlPl. -/
import Derived.Test.YtcpopnhnihbofaaGreatDoorBe05
import Derived.Test.YtcpopnhnihbofaaGreatDoorBe24
import Derived.Test.YtcpopnhnihbofaaGreatDoorBe34
import Derived.Test.YtcpopnhnihbofaaGreatDoorBe35
import Derived.Test.YtcpopnhnihbofaaGreatDoorBe36
import Derived.Test.YtcpopnhnihbofaaGreatDoorBe37
import Derived.Shelf.Abstract
/- Proved here: the contract of the landed mark's mayBePrinted. -/
namespace Go.Proofs.YtcpopnhnihbofaaGreatDoor
open Go.RowKit
set_option linter.unusedVariables false
set_option maxRecDepth 100000

theorem notMay_any (A : Option Addr) (n c B : Nat) (ss : Txs) (w : World) (hn : n ≤ maxLen) (hs : ∀ s ∈ ss, s.length ≤ maxLen) (hA : Strs w B A n ss) :
    Calls Tryz.prog 45 #[.slice A n c] w fun e w' => e = .returned (.bool (!mayB ss)) ∧ w = w' := by
  have hM := lMay_any A n c B ss w hn hs hA
  obtain ⟨m, hm⟩ : ∃ m, mayB ss = m := ⟨_, rfl⟩
  rw [hm] at hM ⊢
  have hMh := Lib.hid hM
  clear hM hm hA hs hn
  go_enter Tryz.func45, Tryz.ntmps45
  go_wp2_with (go_at_call 46; refine hMh.out.mono ?_; rintro e w1 ⟨rfl, rfl⟩)
  go_ret
  exact ⟨rfl, rfl⟩
theorem anyNotMay_any (A : Option Addr) (n c B : Nat) (rows : List Slc) (xs : List Txs) (w : World) (hn : n ≤ maxLen) (hs : ∀ d ∈ xs, d.length ≤ 1000000 ∧ ∀ s ∈ d, s.length ≤ 1000000) (hA : RowsT w B A n rows xs) :
    Calls Tryz.prog 47 #[.slice A n c, .func (.func 45) #[] #[]] w fun e w' => e = .returned (.bool (!xs.all mayB)) ∧ ∃ k, w' = w.drewN k := by
  have h := containsF_any 45 #[] (fun d => !mayB d) A n c B rows xs w hn hA (enters_of Tryz.func45 (by kernel_rfl) rfl) (fun q k A1 n1 c1 ss h1 h2 => by
    have hT := hA.2.2 k _ ss h1 h2
    have hm := List.mem_of_getElem? h2
    refine (notMay_any A1 n1 c1 B ss (w.drewN q) (Nat.le_trans hT.1 hT.2.1) (fun s h => by have := (hs ss hm).2 s h; unfold maxLen; omega) (hT.2.2.drewN q)).mono ?_
    rintro e w' ⟨rfl, rfl⟩
    exact ⟨rfl, 0, rfl⟩)
  rwa [show (xs.any fun d => !mayB d) = !xs.all mayB by rw [List.not_all_eq_any_not]] at h

/-- What is asked of one piece of so many. -/
def okP (n i : Nat) (p : Pc) : Bool := (p.2.1 :: p.2.2.1 :: p.2.2.2).all mayB && !(decide (i + 1 < n) && openB p.2.1)
theorem form_yes {ps : List Pc} {n : Nat} (hl : ps.length = n) (hN : decide (ps = normal ps) = true) (h : ∀ i p, ps[i]? = some p → okP n i p = true) : formB ps = true := by
  unfold formB
  rw [hN, Bool.true_and, Bool.and_eq_true]
  refine ⟨List.all_eq_true.2 fun d hd => ?_, dropLast_all (fun p : Pc => !openB p.2.1) hl fun i p hi hp => ?_⟩
  · obtain ⟨p, hp, hx⟩ := mem_lists.1 hd
    obtain ⟨i, hi⟩ := List.mem_iff_getElem?.1 hp
    have := h i p hi
    unfold okP at this
    rw [Bool.and_eq_true, List.all_eq_true] at this
    exact this.1 d (by rcases hx with rfl | rfl | hx <;> simp [*])
  · have := h i p hp
    unfold okP at this
    rw [Bool.and_eq_true, decide_eq_true hi, Bool.true_and] at this
    exact this.2
theorem form_no {ps : List Pc} {n i : Nat} {p : Pc} (hl : ps.length = n) (hp : ps[i]? = some p) (h : okP n i p = false) : formB ps = false := by
  cases hf : formB ps with
  | false => rfl
  | true =>
    unfold formB at hf
    rw [Bool.and_eq_true, Bool.and_eq_true] at hf
    have h1 : (p.2.1 :: p.2.2.1 :: p.2.2.2).all mayB = true := List.all_eq_true.2 fun d hd => List.all_eq_true.1 hf.1.2 d (mem_lists.2 ⟨p, List.mem_of_getElem? hp, by simpa only [List.mem_cons] using hd⟩)
    unfold okP at h
    rw [h1, Bool.true_and] at h
    by_cases hi : i + 1 < n
    · have h2 := dropLast_no (fun p : Pc => !openB p.2.1) hl hi hp (by rw [decide_eq_true hi, Bool.true_and] at h; exact h)
      rw [h2] at hf
      exact absurd hf.2 (by simp)
    · rw [decide_eq_false hi] at h
      exact absurd h (by simp)

set_option maxHeartbeats 8000000 in
theorem bePrinted_any (A : Option Addr) (n c : Nat) (vs : List PcV) (ps : List Pc) (w : World) (hnc : n ≤ c) (hcm : c ≤ maxLen) (hsm : smallK ps) (hA : Pcs w w.heap.size A n vs ps) :
    Calls Tryz.prog 23 #[.slice A n c] w fun e w' => e = .returned (.bool (formB ps)) ∧ Below w.heap.size w w' := by
  obtain ⟨⟨hs1, hs2⟩, hs3⟩ := hsm
  have hl := hA.len
  have hn100 : n ≤ 100 := by omega
  have hnx : n ≤ maxLen := Nat.le_trans hnc hcm
  have hNo := Lib.hid (normal_new A n c vs ps w hnc hcm (by omega) (by have := sumT_small hs2; omega) (fun p hp => ⟨(hs2 p hp).2.1, fun d hd => by
    rcases List.mem_cons.1 hd with rfl | hd
    · have := (hs2 p hp).2.2.2; omega
    · have := (hs2 p hp).2.2.1 d hd; omega⟩) hA).mono fun e w' h => h.out
  have hAh := Lib.hid hA
  have hlh := Lib.hid hl
  have hs3h := Lib.hid hs3
  have hs2h := Lib.hid hs2
  have hln := Lib.hid (len_normal ps)
  obtain ⟨sm, hsm2⟩ : ∃ sm, decide (ps = normal ps) = sm := ⟨_, rfl⟩
  have hSm : Hid (∀ (A' : Option Addr) (n' c' : Nat) (vs' : List PcV) (W : World), n' ≤ c' → c' ≤ maxLen → Below w.heap.size w W → Pcs W W.heap.size A' n' vs' (normal ps) → Calls Tryz.prog 43 #[.slice A n c, .slice A' n' c'] W fun e w' => e = .returned (.bool sm) ∧ Below w.heap.size w w') := Lib.hid (fun A' n' c' vs' W h0 h1 hW h2 => by
    have := same_ok A A' n n' c c' vs vs' ps (normal ps) W hnc hcm (by omega) h0 h1 (by have := h2.len; have := len_normal ps; omega) (hA.up hW) h2
    rw [hsm2] at this
    refine this.mono ?_
    rintro e w' ⟨r1, r2⟩
    exact ⟨r1, hW.trans (r2.mono hW.size)⟩)
  have hOp : Hid (∀ (A' : Option Addr) (n' c' B : Nat) (d : Txs) (W : World), n' ≤ maxLen → d ∈ listsP ps → Strs W B A' n' d → Calls Tryz.prog 49 #[.slice A' n' c'] W fun e w' => e = .returned (.bool (openB d)) ∧ W = w') := Lib.hid (fun A' n' c' B d W h1 h2 h3 => Open_any A' n' c' B d W h1 (fun s hs => by have := hs3 d h2 s hs; unfold maxLen; omega) h3)
  have hsmh := Lib.hid hsm2
  have hnm : n ≤ 9223372036854775807 := by omega
  clear hA hl hs1 hs2 hs3 hsm2 hnc hcm hnx
  cases sm
  · go_enter Tryz.func23, Tryz.ntmps23
    go_wp2_with (first
      | (go_at_call 44; refine hNo.mono ?_; rintro e w1 ⟨A1, n1, c1, vs1, rfl, h1, h2, h3, h4⟩; have hp := Lib.hid (And.intro (And.intro h1 h2) (And.intro h3 h4)); clear h1 h2 h3 h4)
      | (go_at_call 43; refine (hSm.out A1 n1 c1 vs1 _ hp.out.1.1 hp.out.1.2 hp.out.2.2 hp.out.2.1).mono ?_; rintro e w2 ⟨rfl, hb2⟩; have hB2 := Lib.hid hb2; clear hb2))
    go_ret
    exact ⟨ret_bool (by unfold formB; rw [hsmh.out]; rfl), hB2.out⟩
  · go_enter Tryz.func23, Tryz.ntmps23
    go_wp2_with (first
      | (go_at_call 44; refine hNo.mono ?_; rintro e w1 ⟨A1, n1, c1, vs1, rfl, h1, h2, h3, h4⟩; have hp := Lib.hid (And.intro (And.intro h1 h2) (And.intro h3 h4)); clear h1 h2 h3 h4)
      | (go_at_call 43; refine (hSm.out A1 n1 c1 vs1 _ hp.out.1.1 hp.out.1.2 hp.out.2.2 hp.out.2.1).mono ?_; rintro e w2 ⟨rfl, hb2⟩; have hB2 := Lib.hid hb2; clear hb2))
    go_loopw [5, 6, 17] (fun _ _ s17 wr => ∃ i : Nat, i ≤ n ∧ s17 = .int .i64 i ∧ Hid (∀ j p, j < i → ps[j]? = some p → okP n j p = true) ∧ Hid (Below w.heap.size w wr)) (fun _ _ s17 _ => n - (intOf s17).toNat)
    case atStart => exact ⟨0, Nat.zero_le _, rfl, Lib.hid (fun j p h => absurd h (by omega)), hB2⟩
    case round =>
      obtain ⟨i, hi, rfl, hq, hB⟩ := hrel
      obtain ⟨wo, rfl⟩ : ∃ wo : World, wo = wr := ⟨_, rfl⟩
      by_cases hlt : i < n
      · obtain ⟨b, o, cf, At, nt, ct, Ab, nb, cb, As, ns, cs, t, bs, ss, rfl, hb, hv, hp2, k1, k2, k3, k4, j1, j2, ⟨j3, j4, rr, j5⟩⟩ := hAh.out.at_ (k := i) hlt
        have i1 : (0 : Int) ≤ (i : Int) := by omega
        have i2 : (i : Int) < (n : Int) := by omega
        have hpm := List.mem_of_getElem? hp2
        obtain ⟨hp1, hpp2, hp3, hp4⟩ := hs2h.out _ hpm
        dsimp only at hp1 hpp2 hp3 hp4
        have hsl := j5.2.1
        have y0 := (hB.out.cell (p := ⟨b, o + i * 4, none⟩) hb).trans k1
        have y1 := (hB.out.cell (p := ⟨b, o + i * 4 + 1, none⟩) hb).trans k2
        have y2 := (hB.out.cell (p := ⟨b, o + i * 4 + 2, none⟩) hb).trans k3
        have y3 := (hB.out.cell (p := ⟨b, o + i * 4 + 3, none⟩) hb).trans k4
        have hszo := hB.out.size
        have hbo : b < wo.heap.size := by omega
        have hL : Hid (∀ W, Below w.heap.size w W → Calls Tryz.prog 48 #[.agg #[.bool cf, .slice At nt ct, .slice Ab nb cb, .slice As ns cs]] W fun e w' => ListsOut W w' e ((At, nt, ct) :: (Ab, nb, cb) :: rr)) := Lib.hid (fun W hW => lists_any cf At Ab As nt ct nb cb ns cs w.heap.size rr ss W hW.size (by omega) (j5.below hW))
        obtain ⟨al, hal⟩ : ∃ al, (t :: bs :: ss).all mayB = al := ⟨_, rfl⟩
        obtain ⟨op, hop⟩ : ∃ op, openB t = op := ⟨_, rfl⟩
        have hrows := rows_cons j1 j2 j5.2.2
        have hC : Hid (∀ (A' : Option Addr) (c' : Nat) (W : World), ((At, nt, ct) :: (Ab, nb, cb) :: rr).length ≤ maxLen → Below w.heap.size w W → Reads W W.heap.size A' ((At, nt, ct) :: (Ab, nb, cb) :: rr).length (((At, nt, ct) :: (Ab, nb, cb) :: rr).map slcV) → Calls Tryz.prog 47 #[.slice A' ((At, nt, ct) :: (Ab, nb, cb) :: rr).length c', .func (.func 45) #[] #[]] W fun e w' => e = .returned (.bool (!al)) ∧ ∃ k, w' = W.drewN k) := Lib.hid (fun A' c' W h0 hW hR => by
          have h := anyNotMay_any A' _ c' W.heap.size _ (t :: bs :: ss) W h0 (fun d hd => ⟨by
            rcases List.mem_cons.1 hd with rfl | hd
            · omega
            rcases List.mem_cons.1 hd with rfl | hd
            · omega
            · have := hp3 d hd; omega, hs3h.out d (mem_lists.2 ⟨_, hpm, by simpa only [List.mem_cons] using hd⟩)⟩) (ListsOut.rows hR (by simp [hsl]) fun k r d e1 e2 => ((hrows k r d e1 e2).below hW).more hW.size)
          rwa [hal] at h)
        have hO : Hid (∀ W, Below w.heap.size w W → Calls Tryz.prog 49 #[.slice At nt ct] W fun e w' => e = .returned (.bool op) ∧ W = w') := Lib.hid (fun W hW => by
          have h := hOp.out At nt ct w.heap.size t W (Nat.le_trans j1.1 j1.2.1) (mem_lists.2 ⟨_, hpm, .inl rfl⟩) (Strs.below j1.2.2 hW)
          rwa [hop] at h)
        have hok : Hid (okP n i (cf, t, bs, ss) = (al && !(decide (i + 1 < n) && op))) := Lib.hid (by unfold okP; rw [← hal, ← hop])
        have hph := Lib.hid hp2
        have hstep : Hid ((al && !(decide (i + 1 < n) && op)) = true → ∀ j p, j < i + 1 → ps[j]? = some p → okP n j p = true) := Lib.hid (fun h j p hj hpj => by
          rcases Nat.lt_or_ge j i with h1 | h1
          · exact hq.out j p h1 hpj
          · obtain rfl : j = i := by omega
            rw [hp2] at hpj
            injection hpj with hpj
            rw [← hpj, hok.out, h])
        have hfno : Hid ((al && !(decide (i + 1 < n) && op)) = false → formB ps = false) := Lib.hid (fun h => form_no hlh.out hp2 (by rw [hok.out, h]))
        obtain ⟨RS, hRS⟩ : ∃ RS, (At, nt, ct) :: (Ab, nb, cb) :: rr = RS := ⟨_, rfl⟩
        rw [hRS] at hL hC
        have hcell : Hid (∀ (o2 : Obj) W, Below (wo.alloc o2).heap.size (wo.alloc o2) W → o2 = .cells #[.bool cf, .slice At nt ct, .slice Ab nb cb, .slice As ns cs] 40 → W.cell? ⟨wo.heap.size, 1, none⟩ = some (.slice At nt ct)) := Lib.hid (fun o2 W hW ho2 => by
          have h1 := one_a wo o2
          have h2 := (hW.block _ (by simp)).trans h1
          rw [ho2] at h2
          exact (cells_of h2 1).trans rfl)
        clear hv hp2 k1 k2 k3 k4 j1 j2 j5 hsl hal hop hrows hp1 hpp2 hp3 hp4 hRS hpm
        cases al
        · go_wp2_with (first
            | (go_at_call 48; refine (hL.out _ (below_alloc hB.out _)).mono ?_; rintro e w3 ⟨A3, c3, rfl, q1, q2, q3, q4⟩; have hB3 := Lib.hid ((below_alloc hB.out _).trans (q4.mono (below_alloc hB.out _).size)); have hR3 := Lib.hid (And.intro (Nat.le_trans q1 q2) q3); clear q1 q2 q3 q4)
            | (go_at_call 47; refine (hC.out A3 c3 _ hR3.out.1 hB3.out hR3.out.2).mono ?_; rintro e w4 ⟨rfl, q, hw4⟩; have hB4 := Lib.hid (show Below w.heap.size w w4 by rw [hw4]; exact below_drewN hB3.out q); clear hw4))
          go_ret
          exact ⟨ret_bool (by rw [hfno.out rfl]), hB4.out⟩
        · by_cases hi3 : i + 1 < n
          · have i3 : (i : Int) < (n : Int) - 1 := by omega
            have hd3 : decide (i + 1 < n) = true := decide_eq_true hi3
            rw [hd3] at hstep hfno
            cases op
            all_goals
              go_wp2_with (first
                | (go_at_call 48; refine (hL.out _ (below_alloc hB.out _)).mono ?_; rintro e w3 ⟨A3, c3, rfl, q1, q2, q3, q4⟩; have hB3 := Lib.hid ((below_alloc hB.out _).trans (q4.mono (below_alloc hB.out _).size)); have hR3 := Lib.hid (And.intro (Nat.le_trans q1 q2) q3); have z0 := hcell.out _ w3 (q4.mono (Nat.le_refl _)) rfl; clear q1 q2 q3 q4)
                | (go_at_call 47; refine (hC.out A3 c3 _ hR3.out.1 hB3.out hR3.out.2).mono ?_; rintro e w4 ⟨rfl, q, hw4⟩; have hB4 := Lib.hid (show Below w.heap.size w w4 by rw [hw4]; exact below_drewN hB3.out q); have z1 : w4.cell? ⟨wo.heap.size, 1, none⟩ = some (.slice At nt ct) := (by rw [hw4]; exact z0); clear hw4 z0)
                | (go_at_call 49; refine (hO.out _ hB4.out).mono ?_; rintro e w5 ⟨rfl, rfl⟩))
            · go_roundw
              case rel => exact ⟨i + 1, by omega, by go_num, Lib.hid (hstep.out rfl), hB4⟩
              case measure => simp [intOf]; omega
            · go_ret
              exact ⟨ret_bool (by rw [hfno.out rfl]), hB4.out⟩
          · have i3 : ¬ (i : Int) < (n : Int) - 1 := by omega
            have hd3 : decide (i + 1 < n) = false := decide_eq_false hi3
            rw [hd3] at hstep hfno
            go_wp2_with (first
              | (go_at_call 48; refine (hL.out _ (below_alloc hB.out _)).mono ?_; rintro e w3 ⟨A3, c3, rfl, q1, q2, q3, q4⟩; have hB3 := Lib.hid ((below_alloc hB.out _).trans (q4.mono (below_alloc hB.out _).size)); have hR3 := Lib.hid (And.intro (Nat.le_trans q1 q2) q3); clear q1 q2 q3 q4)
              | (go_at_call 47; refine (hC.out A3 c3 _ hR3.out.1 hB3.out hR3.out.2).mono ?_; rintro e w4 ⟨rfl, q, hw4⟩; have hB4 := Lib.hid (show Below w.heap.size w w4 by rw [hw4]; exact below_drewN hB3.out q); clear hw4))
            go_roundw
            case rel => exact ⟨i + 1, by omega, by go_num, Lib.hid (hstep.out (by simp)), hB4⟩
            case measure => simp [intOf]; omega
      · obtain rfl : i = n := by omega
        have hyes := Lib.hid (form_yes hlh.out hsmh.out fun j p hj => hq.out j p (by have := (List.getElem?_eq_some_iff.1 hj).1; have := hlh.out; omega) hj)
        go_wp2
        go_ret
        exact ⟨ret_bool (by rw [hyes.out]), hB.out⟩
end Go.Proofs.YtcpopnhnihbofaaGreatDoor
/- Proved here, without a word of the program: how many lines all begin, and end, with, asked line by line as far as the shortest goes. -/
namespace Go.Proofs.YtcpopnhnihbofaaGreatDoor
set_option linter.unusedVariables false

/-- A list's line, from its begin; from its end. -/
def begAt (d : Txs) (i : Nat) : Tx := (d[i]?).getD []
def endAt (d : Txs) (i : Nat) : Tx := (d[d.length - 1 - i]?).getD []
/-- How far all are the same, as it is told. -/
def AlikeN (g : Txs → Nat → Tx) (f : Txs) (ds : List Txs) (most r : Nat) : Prop := r ≤ most ∧ (∀ i, i < r → ∀ d ∈ ds, g d i = g f i) ∧ (r < most → ∃ d ∈ ds, g d r ≠ g f r)
/-- The length of the shortest. -/
def MinL (ds : List Txs) (m : Nat) : Prop := (∀ d ∈ ds, m ≤ d.length) ∧ ∃ d ∈ ds, d.length = m
section
variable {f : Txs} {ds : List Txs} {m a b : Nat}
theorem begAt_at {d : Txs} {i : Nat} {t : Tx} (h : d[i]? = some t) : begAt d i = t := by unfold begAt; rw [h]; rfl
theorem endAt_at {d : Txs} {i : Nat} {t : Tx} (h : d[d.length - 1 - i]? = some t) : endAt d i = t := by unfold endAt; rw [h]; rfl
theorem get_of_getD {d e : Txs} {i j : Nat} (hi : i < d.length) (hj : j < e.length) (h : (d[i]?).getD [] = (e[j]?).getD []) : d[i]? = e[j]? := by
  rw [List.getElem?_eq_getElem hi, List.getElem?_eq_getElem hj] at h ⊢
  simpa using h
theorem alike_beg (hf : f ∈ ds) (hm : MinL ds m) (h : AlikeN begAt f ds m a) : begN f ds = a := by
  obtain ⟨h1, d0, hd0, hl0⟩ := hm
  obtain ⟨k1, k2, k3⟩ := h
  refine begN_is hf (begB_iff.2 fun d hd => ⟨by have := h1 d hd; omega, ?_⟩) ?_
  · apply List.ext_getElem?
    intro i
    rw [List.getElem?_take, List.getElem?_take]
    split
    · rename_i hi
      exact get_of_getD (by have := h1 d hd; omega) (by have := h1 f hf; omega) (k2 i hi d hd)
    · rfl
  · cases hb : begB f ds (a + 1) with
    | false => rfl
    | true =>
      rcases Nat.lt_or_ge a m with hlt | hge
      · obtain ⟨d, hd, hne⟩ := k3 hlt
        have := (begB_iff.1 hb d hd).2
        have := congrArg (fun l => l[a]?) this
        simp only [List.getElem?_take, Nat.lt_succ_self, if_true] at this
        exact absurd (by unfold begAt; rw [this]) hne
      · have := (begB_iff.1 hb d0 hd0).1
        omega
theorem alike_tail (hf : f ∈ ds) (hm : MinL ds m) (ha : a ≤ m) (h : AlikeN endAt f ds (m - a) b) : tailN (f.drop a) (ds.map fun d => d.drop a) = b := by
  obtain ⟨h1, d0, hd0, hl0⟩ := hm
  obtain ⟨k1, k2, k3⟩ := h
  have hfm : f.drop a ∈ ds.map fun d => d.drop a := List.mem_map.2 ⟨f, hf, rfl⟩
  have hfl := h1 f hf
  refine tailN_is hfm (tailB_iff.2 fun e he => ?_) ?_
  · obtain ⟨d, hd, rfl⟩ := List.mem_map.1 he
    have hdl := h1 d hd
    refine ⟨by rw [List.length_drop]; omega, ?_⟩
    rw [List.drop_drop, List.drop_drop, List.length_drop, List.length_drop]
    apply List.ext_getElem?
    intro i
    rw [List.getElem?_drop, List.getElem?_drop]
    rcases Nat.lt_or_ge i b with hi | hi
    · have := k2 (b - 1 - i) (by omega) d hd
      unfold endAt at this
      have := get_of_getD (by omega) (by omega) this
      rw [show d.length - 1 - (b - 1 - i) = a + (d.length - a - b) + i by omega, show f.length - 1 - (b - 1 - i) = a + (f.length - a - b) + i by omega] at this
      exact this
    · rw [List.getElem?_eq_none (by omega), List.getElem?_eq_none (by omega)]
  · cases hb : tailB (f.drop a) (ds.map fun d => d.drop a) (b + 1) with
    | false => rfl
    | true =>
      rcases Nat.lt_or_ge b (m - a) with hlt | hge
      · obtain ⟨d, hd, hne⟩ := k3 hlt
        have hdl := h1 d hd
        have := (tailB_iff.1 hb (d.drop a) (List.mem_map.2 ⟨d, hd, rfl⟩)).2
        have := congrArg (fun l => l[0]?) this
        simp only [List.getElem?_drop, List.length_drop] at this
        rw [show a + (d.length - a - (b + 1) + 0) = d.length - 1 - b by omega, show a + (f.length - a - (b + 1) + 0) = f.length - 1 - b by omega] at this
        exact absurd (by unfold endAt; rw [this]) hne
      · have := (tailB_iff.1 hb (d0.drop a) (List.mem_map.2 ⟨d0, hd0, rfl⟩)).1
        rw [List.length_drop] at this
        omega
/-- What trimL is, where not all sides are the same. -/
theorem trimL_is {base : Txs} (hf : f ∈ ds) (hm : MinL ds m) (ha : AlikeN begAt f ds m a) (hb : AlikeN endAt f ds (m - a) b) (hne : ¬ ∀ d ∈ ds, d = f) :
    trimL base f ds = [tPc (f.take a), cPc base (ds.map (leftD a b)), tPc (f.drop (f.length - b))] := by
  have e1 := alike_beg hf hm ha
  have e2 := alike_tail hf hm ha.1 hb
  unfold trimL
  dsimp only
  rw [if_neg (fun h => hne ((all_same hf).1 h)), e1, e2]
theorem trimL_same {base : Txs} (hf : f ∈ ds) (h : ∀ d ∈ ds, d = f) : trimL base f ds = [tPc f] := by
  unfold trimL
  dsimp only
  rw [if_pos ((all_same hf).2 h)]
/-- All is within each side. -/
theorem alike_within (hm : MinL ds m) (ha : AlikeN begAt f ds m a) (hb : AlikeN endAt f ds (m - a) b) : ∀ d ∈ ds, a + b ≤ d.length := fun d hd => by
  have h1 := hm.1 d hd
  have h2 := ha.1
  have h3 := hb.1
  omega
end
end Go.Proofs.YtcpopnhnihbofaaGreatDoor
