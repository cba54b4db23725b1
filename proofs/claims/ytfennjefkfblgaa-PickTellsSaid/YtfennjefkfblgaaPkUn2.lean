/- Proved here: the contract of the landed package pick's union. -/
import Derived.Test.YtfennjefkfblgaaPkUn
namespace Go.Proofs.Ytfennjefkfblgaa
open Go.RowKit
set_option linter.unusedVariables false

theorem PileS.stored {w wr : World} {g n cap : Nat} {xs : Txs} (h : PileS w wr (.slice (some ⟨g, 0, none⟩) n cap) xs) (hn : xs.length = n) (m : Nat) (t : Tx) : PileS w (wr.setCell ⟨g, m, none⟩ (.string (str t))) (.slice (some ⟨g, 0, none⟩) n cap) (xs.set m t) := by
  have hown := h.own.own
  rw [hn] at hown
  obtain ⟨h1, h2⟩ := hown.stored m (.string (str t))
  have hlt := hown.lt g rfl
  refine ⟨h.box.kept h2 fun e => pile_not h.box h.own (by decide) g rfl (by injection e with e; exact e.symm), h.fn.kept h2 fun e => pile_not h.fn h.own (by decide) g rfl (by injection e with e; exact e.symm), ?_, h.own.below.grown h2 h.own.below.size fun k e => by injection e with e; omega⟩
  rw [List.length_set, hn, List.map_set]
  exact h1

set_option maxRecDepth 100000 in
set_option maxHeartbeats 4000000 in
theorem unPut_any (A : Option Addr) (n c : Nat) (v : Value) (xs ys : Txs) (w wr : World) (hP : PileS w wr v xs) (hn : n ≤ 1000000) (hA : Strs wr w.heap.size A n ys) (hm : xs.length + n ≤ 1000000000) (hs : ∀ s ∈ xs, s.length ≤ 1000001) :
    Calls Try.prog 45 #[.slice A n c, .pointer (some ⟨w.heap.size, 0, none⟩), .pointer (some ⟨w.heap.size + 1, 0, none⟩)] wr fun e w' => e = .returned (.tuple #[]) ∧ ∃ v', PileS w w' v' ((if ys = [] then xs else closed xs) ++ ys) := by
  obtain ⟨zs, hzs⟩ : ∃ zs, (if ys = [] then xs else closed xs) ++ ys = zs := ⟨_, rfl⟩
  have hzsh := Lib.hid hzs
  rw [hzs]
  clear hzs
  have x0 := hP.box.cell
  have x1 := hP.fn.cell
  have hl := hA.len
  have hlt := hP.fn.lt
  have hPh := Lib.hid hP
  have hput : Hid (∀ (W : World) (v1 : Value) (xs1 : Txs), PileS w W v1 xs1 → (∀ q : Addr, q.block < w.heap.size → W.cell? q = wr.cell? q) → xs1.length = xs.length → Calls Try.prog 47 #[.pointer (some ⟨w.heap.size, 0, none⟩), .slice A n c] W fun e w' => e = .returned (.tuple #[]) ∧ ∃ v', PileS w w' v' (xs1 ++ ys)) :=
    Lib.hid fun W v1 xs1 h1 h2 h3 => pilePut_any A n c w.heap.size v1 xs1 ys w W h1 (Reads.keep hA h2) (by omega)
  clear hP hA
  by_cases h0 : n = 0
  · subst h0
    have hys : ys = [] := List.eq_nil_of_length_eq_zero hl
    have hyh := Lib.hid hys
    have hd : decide ((0 : Int) < ((0 : Nat) : Int)) = false := by decide
    have hQ := Lib.hid (hput.out wr v xs hPh.out (fun _ _ => rfl) rfl)
    clear hys hl
    go_enter Try.func45, Try.ntmps45
    go_wp2_with (go_at_call 47; refine hQ.out.mono ?_; rintro e w1 ⟨rfl, v1, hP1⟩; have hP1h := Lib.hid hP1; clear hP1)
    go_end0
    exact ⟨rfl, v1, by rw [← hzsh.out, if_pos hyh.out]; exact hP1h.out⟩
  · have hys : ys ≠ [] := by rintro rfl; simp at hl; omega
    have hd : decide ((0 : Int) < (n : Int)) = true := by simp; omega
    have hyh := Lib.hid hys
    obtain ⟨A2, c2, hv, hc1, hc2, hR⟩ := own_slice hPh.out.own.own
    have hO := Lib.hid (Open_any A2 xs.length c2 _ xs wr (Nat.le_trans hc1 hc2) (fun s h => Nat.le_trans (hs s h) (by unfold maxLen; omega)) hR)
    obtain ⟨N, hN⟩ : ∃ N, xs.length = N := ⟨_, rfl⟩
    rw [hN] at hv hO hR
    subst hv
    clear hys hl
    cases hop : openB xs
    · have hcl := Lib.hid (closed_same hop)
      have hQ := Lib.hid (hput.out wr _ xs hPh.out (fun _ _ => rfl) rfl)
      rw [hop] at hO
      clear hop hR hc1 hc2 hN
      go_enter Try.func45, Try.ntmps45
      go_wp2_with (first
        | (go_at_call 46; refine hO.out.mono ?_; rintro e w1 ⟨rfl, rfl⟩)
        | (go_at_call 47; refine hQ.out.mono ?_; rintro e w2 ⟨rfl, v2, hP2⟩; have hP2h := Lib.hid hP2; clear hP2))
      go_end0
      exact ⟨rfl, v2, by rw [← hzsh.out, if_neg hyh.out, hcl.out]; exact hP2h.out⟩
    · obtain ⟨m, hmN⟩ : ∃ m, m + 1 = N := by
        rcases N with _ | m
        · have : xs = [] := List.eq_nil_of_length_eq_zero hN
          subst this
          simp [openB] at hop
        · exact ⟨m, rfl⟩
      have hown := hPh.out.own.own
      rw [hN] at hown
      obtain ⟨g, hg⟩ : ∃ g, A2 = some ⟨g, 0, none⟩ := by
        subst hmN
        obtain ⟨g, cap, hv⟩ := ownsRow_succ hown
        injection hv with hv1 hv2 hv3
        exact ⟨g, hv1⟩
      subst hg
      have hNm : xs.length = m + 1 := by omega
      have hsm : xs[m]? = some (xs[m]'(by omega)) := List.getElem?_eq_getElem _
      obtain ⟨s, hse⟩ : ∃ s, xs[m]'(by omega) = s := ⟨_, rfl⟩
      rw [hse] at hsm
      have hend : endedB s = false := by have := open_last hNm hsm; rw [hop] at this; simpa using this.symm
      have hcl : closed xs = xs.set m (s ++ [10]) := by rw [closed_set hNm hsm, hend]; rfl
      have hclh := Lib.hid hcl
      have x2 : wr.cell? ⟨g, m, none⟩ = some (.string (str s)) := by
        rw [hown.cellAt m (by omega), List.getElem?_map, hsm]; rfl
      have x3 : wr.frozen? ⟨g, m, none⟩ = false := hown.frozenAt m
      have hsz : (str s).size ≤ 1000001 := by rw [str_size]; exact hs s (List.mem_of_getElem? hsm)
      have hcat : ¬ 9223372036854775807 < (str s).size + 1 := by omega
      have hgl := hown.lt g rfl
      have hglt := hgl.2
      have hge := hgl.1
      have hLa := Lib.hid (pileLast_any g m c2 wr w.heap.size (by unfold maxLen; omega) (by rw [hmN]; exact hPh.out.box))
      have hQ : Hid (∀ q, Calls Try.prog 47 #[.pointer (some ⟨w.heap.size, 0, none⟩), .slice A n c] ((wr.drewN q).setCell ⟨g, m, none⟩ (.string (str s ++ ⟨#[10]⟩))) fun e w' => e = .returned (.tuple #[]) ∧ ∃ v', PileS w w' v' (closed xs ++ ys)) := Lib.hid (fun q => by
        rw [hcl, str_feed]
        refine hput.out _ _ _ ((hPh.out.drewN q).stored hN m (s ++ [10])) (fun p hp => ?_) (by simp)
        exact (World.cell?_of_block (w := wr.drewN q) (Below.heap_setCell _ _ _ _ (fun e => by have : p.block = g := e; omega))).trans rfl)
      rw [hop] at hO
      clear hop hR hc1 hc2 hN hown hsm hse hend hcl hs hm hgl hNm hmN
      go_enter Try.func45, Try.ntmps45
      go_wp2_with (first
        | (go_at_call 46; refine hO.out.mono ?_; rintro e w1 ⟨rfl, rfl⟩)
        | (go_at_call 44; refine hLa.out.mono ?_; rintro e w1 ⟨rfl, q, rfl⟩)
        | (go_at_call 47; refine (hQ.out _).mono ?_; rintro e w2 ⟨rfl, v2, hP2⟩; have hP2h := Lib.hid hP2; clear hP2))
      go_end0
      exact ⟨rfl, v2, by rw [← hzsh.out, if_neg hyh.out]; exact hP2h.out⟩

theorem PileS.start (w : World) : PileS w ((w.alloc (.cells #[.slice none 0 0] 63)).alloc (.cells #[.func (.func 44) #[.pointer (some ⟨w.heap.size, 0, none⟩)] #[]] 64)) (.slice none 0 0) [] := by
  have h := two_a w (.cells #[.slice none 0 0] 63) (.cells #[.func (.func 44) #[.pointer (some ⟨w.heap.size, 0, none⟩)] #[]] 64)
  exact ⟨h.1, h.2, World.ownsRow_nil _ _ _ _, ((Below.refl _ w).alloc (Nat.le_refl _) _).alloc (by simp) _⟩

set_option maxRecDepth 100000 in
set_option maxHeartbeats 4000000 in
theorem union_any (A : Option Addr) (n c : Nat) (rows : List Slc) (ds : List Txs) (w : World) (hn : n ≤ 100000) (hln : ∀ d ∈ ds, d.length ≤ 1000000) (htx : ∀ d ∈ ds, ∀ s ∈ d, s.length ≤ 1000000) (hsum : (unionT ds).length ≤ 999000000) (hA : RowsT w w.heap.size A n rows ds) :
    Calls Try.prog 30 #[.slice A n c] w fun e w' => OwnOut w w' e (unionT ds) := by
  have hl := hA.len
  have hAh := Lib.hid hA
  have hlh := Lib.hid hl
  have hsumh := Lib.hid hsum
  have hlnh := Lib.hid hln
  have htxh := Lib.hid htx
  have hst : Hid (PileS w _ (.slice none 0 0) (unionT (ds.take 0))) := Lib.hid (PileS.start w)
  clear hA hsum hln htx hl
  go_enter Try.func30, Try.ntmps30
  go_wp2
  go_loopw [7, 12] (fun _ s12 wr => ∃ (i : Nat) (v : Value), i ≤ n ∧ s12 = .int .i64 i ∧ Hid (PileS w wr v (unionT (ds.take i)))) (fun _ s12 _ => n - (intOf s12).toNat)
  case atStart => exact ⟨0, _, Nat.zero_le _, rfl, hst⟩
  case round =>
    obtain ⟨i, v, hin, rfl, hP⟩ := hrel
    obtain ⟨wo, rfl⟩ : ∃ wo : World, wo = wr := ⟨_, rfl⟩
    clear hst
    by_cases hlt : i < n
    · obtain ⟨b, o, A1, n1, c1, d, rfl, hb, hd, -, hc, hnc, hcm, hS⟩ := (hAh.out.below hP.out.own.below).at_ (k := i) hlt
      have i1 : (0 : Int) ≤ (i : Int) := by omega
      have i2 : (i : Int) < (n : Int) := by omega
      have hdl := hlnh.out d (List.mem_of_getElem? hd)
      have hd1 := hS.len
      have hpre := union_pre ds i
      have hQ := Lib.hid (unPut_any A1 n1 c1 v (unionT (ds.take i)) d w wo hP.out (by omega) hS (by have := hsumh.out; omega) (union_small htxh.out i))
      have hstep := Lib.hid (union_take hd)
      clear hd hS hdl hd1 hpre hnc hcm
      go_wp2_with (go_at_call 45; refine hQ.out.mono ?_; rintro e w1 ⟨rfl, v1, hP1⟩; have hP1h := Lib.hid hP1; clear hP1)
      go_roundw
      case rel => exact ⟨i + 1, v1, by omega, by go_num, Lib.hid (by rw [hstep.out]; exact hP1h.out)⟩
      case measure => simp [intOf]; omega
    · obtain rfl : i = n := by omega
      have ht : Hid (ds.take i = ds) := Lib.hid (List.take_of_length_le (by rw [hlh.out]; exact Nat.le_refl _))
      have x0 := hP.out.box.cell
      go_wp2
      go_ret
      exact ⟨v, rfl, by have := hP.out.own; rwa [ht.out] at this⟩
end Go.Proofs.Ytfennjefkfblgaa
