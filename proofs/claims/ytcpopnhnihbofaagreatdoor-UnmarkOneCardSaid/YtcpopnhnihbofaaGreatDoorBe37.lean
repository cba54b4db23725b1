/- Proved here: texts joined: PkNorm. -/
import Derived.Test.YtcpopnhnihbofaaGreatDoorBe36
/- Proved here: the contract of the landed pick.Normal. -/
namespace Go.Proofs.YtcpopnhnihbofaaGreatDoor
open Go.RowKit
set_option linter.unusedVariables false

theorem getLast_snoc {α : Type} {l : List α} (h : l ≠ []) : ∃ l0 x, l = l0 ++ [x] := by
  refine ⟨l.dropLast, l.getLast h, (List.dropLast_concat_getLast h).symm⟩
theorem neq_ptr (W : World) (a : Addr) : (binOp .neq 90 (.pointer (some a)) (.pointer none)).run Tryz.prog W = .ok (.bool true) W := by go_simp
theorem neq_nil (W : World) : (binOp .neq 90 (.pointer none) (.pointer none)).run Tryz.prog W = .ok (.bool false) W := by go_simp

theorem slice_own4 {w : World} {base n s : Nat} {e : TypeId} {v : Value} {xs : List Value} (h : w.ownsRow base e s v n xs) : ∃ A c, v = .slice A n c := by
  rcases h.2 with ⟨rfl, rfl⟩ | ⟨g, cap, cur, rfl, _⟩
  · exact ⟨none, 0, rfl⟩
  · exact ⟨_, cap, rfl⟩
theorem last_cells {W : World} {base g cap m N : Nat} {qs0 : List (PcV × Pc)} {r : PcV} {p : Pc} (hm : qs0.length = m) (hN : m + 1 = N) (h : W.ownsRow base 40 4 (.slice (some ⟨g, 0, none⟩) N cap) N (pcCs (qs0 ++ [(r, p)]))) : W.cell? ⟨g, m * 4, none⟩ = some (.bool p.1) ∧ W.cell? ⟨g, m * 4 + 1, none⟩ = some (slcV r.1) := by
  have hq : (qs0 ++ [(r, p)])[m]? = some (r, p) := by rw [← hm]; simp
  exact ⟨(h.cellAt (m * 4) (by omega)).trans (pcCs_at _ m 0 _ hq (by omega)), (h.cellAt (m * 4 + 1) (by omega)).trans (pcCs_at _ m 1 _ hq (by omega))⟩
/-- All pieces stand, the last one's text too. -/
theorem NorS.pcsO {w wr : World} {v u : Value} {qs : List (PcV × Pc)} (h : NorS w wr v qs u) : PcsO w wr v qs := by
  refine ⟨h.own, fun w2 h2 q hq => ?_, h.below⟩
  obtain ⟨k, hk⟩ := List.mem_iff_getElem?.1 hq
  have hb : But (FP w v u) wr w2 := h2.more fun k e => .inr (.inl e)
  by_cases hc : k + 1 < qs.length ∨ q.2.1 = true
  · exact h.row k q hk hc w2 hb
  · have hkl := (List.getElem?_eq_some_iff.1 hk).1
    have hqf : q.2.1 = false := by cases hqq : q.2.1; rfl; exact absurd (.inr hqq) hc
    obtain ⟨l1, l2, l3, l4⟩ := h.last k q hk (by omega) hqf
    exact text_row l1 l2 l3 (ownsRow_kept l4 (w' := w2) fun j e => h2.block j (l4.lt j e).2 fun e2 => rows_apart h.own l4 (by decide) j e2 e)

/-- The pieces lie in memory that the call has made. -/
theorem NorS.fresh {w wr : World} {v u : Value} {qs : List (PcV × Pc)} (h : NorS w wr v qs u) : PcsNew w wr (.returned v) (qs.map fun q => q.2) := by
  obtain ⟨A, c, hv, h1, h2, -⟩ := h.pcsO.reads
  refine ⟨A, _, c, qs.map fun q => q.1, by rw [hv], h1, h2, fun w2 hb => ?_, h.below⟩
  have hown : w2.ownsRow w.heap.size 40 4 v qs.length (pcCs qs) := ownsRow_kept h.own fun k e => hb.block k (h.own.lt k e).2 (by have := (h.own.lt k e).1; omega)
  obtain ⟨A', c', hv', -, -, h3⟩ := pcs_reads (w := w) hown fun q hq => by
    obtain ⟨k, hk⟩ := List.mem_iff_getElem?.1 hq
    have hb2 : But (FP w v u) wr w2 := hb.more fun k e => .inl (by omega)
    by_cases hc : k + 1 < qs.length ∨ q.2.1 = true
    · exact h.row k q hk hc w2 hb2
    · have hkl := (List.getElem?_eq_some_iff.1 hk).1
      have hqf : q.2.1 = false := by cases hqq : q.2.1; rfl; exact absurd (.inr hqq) hc
      obtain ⟨l1, l2, l3, l4⟩ := h.last k q hk (by omega) hqf
      exact text_row l1 l2 l3 (ownsRow_kept l4 (w' := w2) fun j e => hb.block j (l4.lt j e).2 (by have := (l4.lt j e).1; omega))
  rw [hv] at hv'
  injection hv' with e1 e2 e3
  subst e1
  exact h3

set_option maxRecDepth 100000 in
set_option maxHeartbeats 8000000 in
theorem norText_any (A : Option Addr) (n c : Nat) (v u : Value) (qs : List (PcV × Pc)) (ys : Txs) (w wr : World) (hP : NorS w wr v qs u) (hq : qs.length ≤ 100000) (hn : n ≤ 1000000) (hA : Strs wr w.heap.size A n ys) (hsm : ∀ q ∈ qs, q.2.2.1.length ≤ 1000000) :
    Calls Tryz.prog 71 #[.slice A n c, .pointer (some ⟨w.heap.size + 1, 0, none⟩), .pointer (some ⟨w.heap.size, 0, none⟩)] wr fun e w' => e = .returned (.tuple #[]) ∧ ∃ v' qs' u', NorS w w' v' qs' u' ∧ (qs'.map fun q => q.2) = pushT (qs.map fun q => q.2) ys := by
  obtain ⟨zs, hzs⟩ : ∃ zs, pushT (qs.map fun q => q.2) ys = zs := ⟨_, rfl⟩
  have hzsh := Lib.hid hzs
  rw [hzs]
  have x1 := hP.fn.cell
  have hl := hA.len
  have hlt := hP.fn.lt
  have hPh := Lib.hid hP
  have hTx := Lib.hid (fun W (hW : W = wr ∨ ∃ q, W = wr.drewN q) => text_any A n c w.heap.size ys W (by omega) (by rcases hW with rfl | ⟨q, rfl⟩; exact hP.below.size; exact hP.below.size) (by rcases hW with rfl | ⟨q, rfl⟩; exact hA; exact hA.drewN q))
  -- a new piece
  have hnew : Hid (∀ (W w1 w2 : World) (A3 : Option Addr) (c3 : Nat) (v' : Value), (W = wr ∨ ∃ q, W = wr.drewN q) → (∀ q, (qs.map fun q => q.2).getLast? = some q → q.1 = true) → TxO W w1 (.slice A3 ys.length c3) ys →
      w2.ownsRow w.heap.size 40 4 v' (qs.length + 1) (pcCs qs ++ pcC false ((A3, ys.length, c3), (none, 0, 0), (none, 0, 0))) →
      (w1.alloc (pcObj false ((A3, ys.length, c3), (none, 0, 0), (none, 0, 0)))).grownBy w2 v.ownBlock → (v'.ownBlock = v.ownBlock ∨ v'.ownBlock = some (w1.alloc (pcObj false ((A3, ys.length, c3), (none, 0, 0), (none, 0, 0)))).heap.size) →
      ∃ v1 qs1 u1, NorS w (w2.setCell ⟨w.heap.size, 0, none⟩ v') v1 qs1 u1 ∧ (qs1.map fun q => q.2) = zs) := Lib.hid (fun W w1 w2 A3 c3 v' hW hno hT h1 h2 h3 => by
    have hPW : NorS w W v qs u := by
      rcases hW with rfl | ⟨q, rfl⟩
      · exact hPh.out
      · exact hPh.out.up ⟨rfl, rfl, rfl, Nat.le_refl _, fun _ _ => rfl⟩
    have hsz := hT.below.size
    refine ⟨v', _, .slice A3 ys.length c3, hPW.put (r := ((A3, ys.length, c3), (none, 0, 0), (none, 0, 0))) (p := tPc ys) (hT.below.alloc hsz _) (fun h => by cases h) h1 h2 h3 (fun _ => ⟨rfl, rfl, rfl, hT.own.alloc _⟩) (fun h => by cases h), ?_⟩
    rw [← hzs, List.map_append, pushT_new ys hno]
    rfl)
  have hput : Hid (∀ (W w1 : World) (A3 : Option Addr) (c3 : Nat), (W = wr ∨ ∃ q, W = wr.drewN q) → TxO W w1 (.slice A3 ys.length c3) ys →
      Calls Tryz.prog 72 #[.pointer (some ⟨w.heap.size, 0, none⟩), .slice (some ⟨w1.heap.size, 0, none⟩) 1 1] (w1.alloc (pcObj false ((A3, ys.length, c3), (none, 0, 0), (none, 0, 0)))) fun e w' => e = .returned (.tuple #[]) ∧ ∃ v' w2, w' = w2.setCell ⟨w.heap.size, 0, none⟩ v' ∧
        w2.ownsRow w.heap.size 40 4 v' (qs.length + 1) (pcCs qs ++ pcC false ((A3, ys.length, c3), (none, 0, 0), (none, 0, 0))) ∧ (w1.alloc (pcObj false ((A3, ys.length, c3), (none, 0, 0), (none, 0, 0)))).grownBy w2 v.ownBlock ∧ (v'.ownBlock = v.ownBlock ∨ v'.ownBlock = some (w1.alloc (pcObj false ((A3, ys.length, c3), (none, 0, 0), (none, 0, 0)))).heap.size)) := Lib.hid (fun W w1 A3 c3 hW hT => by
    have hPW : NorS w W v qs u := by
      rcases hW with rfl | ⟨q, rfl⟩
      · exact hPh.out
      · exact hPh.out.up ⟨rfl, rfl, rfl, Nat.le_refl _, fun _ _ => rfl⟩
    have hP1 := (hPW.up hT.below).up ((Below.refl _ w1).alloc (Nat.le_refl _) (pcObj false ((A3, ys.length, c3), (none, 0, 0), (none, 0, 0))))
    exact pilePutP_any w.heap.size w.heap.size qs.length w1.heap.size v (pcCs qs) false ((A3, ys.length, c3), (none, 0, 0), (none, 0, 0)) _ (by omega) hP1.box hP1.own hP1.below.size (one_a _ _))
  clear hzs hl
  by_cases hq0 : qs = []
  · have hno : Hid (∀ q, (qs.map fun q => q.2).getLast? = some q → q.1 = true) := Lib.hid (fun q h => by rw [hq0] at h; simp at h)
    have h1 := hP.own
    have h2 : qs.length = 0 := by rw [hq0]; rfl
    obtain ⟨A1, c1, hv⟩ := slice_own4 h1
    rw [h2] at hv
    have hbx := hP.box
    rw [hv] at hbx
    have hLa := Lib.hid (pileLastP_none w.heap.size c1 A1 wr hbx)
    have hnl := neq_nil
    clear h1 h2 hv hbx hP hA hq0
    go_enter Tryz.func71, Tryz.ntmps71
    go_wp2_with (first
      | (go_at_call 70; refine hLa.out.mono ?_; rintro e w1 ⟨rfl, rfl⟩)
      | (go_at_call 73; refine (hTx.out _ (.inl rfl)).mono ?_; rintro e w2 ⟨A3, c3, rfl, hT3⟩; have hQ := Lib.hid (hput.out _ w2 A3 c3 (.inl rfl) hT3); have hT3h := Lib.hid hT3; clear hT3)
      | (go_at_call 72; refine hQ.out.mono ?_; rintro e w3 ⟨rfl, v', w4, rfl, h1, h2, h3⟩; have hfin := Lib.hid (hnew.out _ _ w4 _ _ v' (.inl rfl) hno.out hT3h.out h1 h2 h3); clear h1 h2 h3))
    go_end0
    exact ⟨rfl, hfin.out⟩
  · obtain ⟨qs0, ⟨r, p⟩, rfl⟩ := getLast_snoc hq0
    obtain ⟨m, hm⟩ : ∃ m, qs0.length = m := ⟨_, rfl⟩
    have h1 := hP.own
    have h2 : (qs0 ++ [(r, p)]).length = m + 1 := by simp [hm]
    rw [h2] at h1
    obtain ⟨g, cap, hv⟩ := ownsRow_succ h1
    obtain ⟨N, hN⟩ : ∃ N, m + 1 = N := ⟨_, rfl⟩
    rw [hN] at hv h1
    subst hv
    have hmx : m < maxLen := by have := hq; unfold maxLen; rw [h2] at this; omega
    have hLa := Lib.hid (pileLastP_any g m N cap wr w.heap.size hmx hN hP.box)
    obtain ⟨x2, x3⟩ := last_cells hm hN h1
    have hnp := neq_ptr
    have hglt := (h1.lt g rfl).2
    by_cases hp : p.1 = true
    · have hno : Hid (∀ q, ((qs0 ++ [(r, p)]).map fun q => q.2).getLast? = some q → q.1 = true) := Lib.hid (fun q h => by simp at h; rw [← h]; exact hp)
      have hok : Hid (∀ q, wr.drewN q = wr ∨ ∃ q', wr.drewN q = wr.drewN q') := Lib.hid (fun q => .inr ⟨q, rfl⟩)
      rw [hp] at x2
      clear h1 h2 hP hA hq0 hp hm hN hmx hsm hq
      go_enter Tryz.func71, Tryz.ntmps71
      go_wp2_with (first
        | (go_at_call 70; refine hLa.out.mono ?_; rintro e w1 ⟨rfl, q, rfl⟩)
        | (go_at_call 73; refine (hTx.out _ (hok.out q)).mono ?_; rintro e w2 ⟨A3, c3, rfl, hT3⟩; have hQ := Lib.hid (hput.out _ w2 A3 c3 (hok.out q) hT3); have hT3h := Lib.hid hT3; clear hT3)
        | (go_at_call 72; refine hQ.out.mono ?_; rintro e w3 ⟨rfl, v', w4, rfl, h1, h2, h3⟩; have hfin := Lib.hid (hnew.out _ _ w4 _ _ v' (hok.out q) hno.out hT3h.out h1 h2 h3); clear h1 h2 h3))
      go_end0
      exact ⟨rfl, hfin.out⟩
    · have hpf : p.1 = false := by cases h : p.1; rfl; exact absurd h hp
      obtain ⟨l1, l2, l3, l4⟩ := hP.last m (r, p) (by rw [← hm]; simp) h2.symm hpf
      dsimp only at l1 l2 l3 l4
      obtain ⟨Au, cu, hu, hu1, hu2, hu3⟩ := own_slice l4
      obtain ⟨i0, hi, hzz⟩ := Option.map_eq_some_iff.1 infoStr
      simp only [Prod.mk.injEq] at hzz
      obtain ⟨hz0, hz1, hz2⟩ := hzz
      have hll := hA.len
      have hle : Hid (p.2.1.length + n ≤ maxLen ∧ (p.2.1.length + n) * 16 ≤ 140737488355328) := Lib.hid (by have h8 : p.2.1.length ≤ 1000000 := hsm (r, p) (by simp); unfold maxLen; exact ⟨by omega, by omega⟩)
      have hown : Hid (∀ q, (wr.drewN q).ownsRow w.heap.size 9 1 u p.2.1.length (p.2.1.map fun s => .string (str s)) ∧ w.heap.size ≤ (wr.drewN q).heap.size ∧ Strs (wr.drewN q) w.heap.size A n ys) := Lib.hid (fun q => ⟨l4, hP.below.size, hA.drewN q⟩)
      have hext : Hid (∀ (q : Nat) (w2 : World) (A2 : Option Addr) (m2 c2 : Nat), w2.ownsRow w.heap.size 9 1 (.slice A2 m2 c2) (p.2.1.length + n) ((p.2.1.map fun s => .string (str s)) ++ ys.map fun s => .string (str s)) → (wr.drewN q).grownBy w2 u.ownBlock → ((Value.slice A2 m2 c2).ownBlock = u.ownBlock ∨ (Value.slice A2 m2 c2).ownBlock = some (wr.drewN q).heap.size) →
          w2.cell? ⟨g, m * 4 + 1, none⟩ = some (slcV r.1) ∧ w2.frozen? ⟨g, m * 4 + 1, none⟩ = false ∧ ∃ v' qs' u', NorS w (w2.setCell ⟨g, m * 4 + 1, none⟩ (.slice A2 m2 c2)) v' qs' u' ∧ (qs'.map fun q => q.2) = zs) := Lib.hid (fun q w2 A2 m2 c2 h3 h4 h5 => by
        obtain ⟨k1, k2⟩ := (hPh.out.up (w1 := wr.drewN q) ⟨rfl, rfl, rfl, Nat.le_refl _, fun _ _ => rfl⟩).ext (by omega) hpf (by rw [hll]; exact h3) h4 h5
        rw [hm] at k2
        refine ⟨(last_cells hm hN k1).2, k1.frozenAt _, _, _, _, k2, ?_⟩
        rw [← hzsh.out, List.map_append, List.map_append]
        show _ ++ [tPc (p.2.1 ++ ys)] = pushT (_ ++ [p]) ys
        rw [l3]
        exact (pushT_old _ _ _ _ _).symm)
      obtain ⟨nu, hnu⟩ : ∃ nu, p.2.1.length = nu := ⟨_, rfl⟩
      rw [l1, hu, hnu] at x3
      rw [hu, hnu] at hown
      rw [hu] at hext
      rw [hpf] at x2
      rw [hnu] at hle hext
      clear h1 h2 hP hA hq0 hp hm hN hmx hsm hq l1 l2 l3 l4 hu hu1 hu2 hu3 hpf hll hnew hput hTx hPh hnu
      go_enter Tryz.func71, Tryz.ntmps71
      go_wp2_with (first
        | (go_at_call 70; refine hLa.out.mono ?_; rintro e w1 ⟨rfl, q, rfl⟩)
        | (at_builtin; refine wpList_append_readsL _ rfl _ _ 25 rfl w.heap.size 9 i0 (.string ByteArray.empty) 16 Tryz.underlying25 hi hz0 hz1 hz2 rfl (.slice Au nu cu) nu _ rfl (hown.out q).1 w.heap.size A n c _ rfl (hown.out q).2.2 (strs_one _) hle.out.1 hle.out.2 (hown.out q).2.1 ?_; intro v' w2 hown2 hg2 hloc2; obtain ⟨A2, c2, rfl, -, -, -⟩ := own_slice hown2; obtain ⟨y1, y2, y3⟩ := hext.out q w2 A2 _ c2 hown2 hg2 hloc2; have hfin := Lib.hid y3; clear y3 hown2 hg2 hloc2 x2 x3))
      refine bodyPost_ret (results_none rfl _ _ _) rfl ?_
      exact ⟨rfl, hfin.out⟩

set_option maxRecDepth 100000 in
set_option maxHeartbeats 8000000 in
theorem normal_new (A : Option Addr) (n c : Nat) (vs : List PcV) (ps : List Pc) (w : World) (hnc : n ≤ c) (hcm : c ≤ maxLen) (hn : n ≤ 10000) (hsum : sumT ps ≤ 1000000) (hsm : smallN ps) (hA : Pcs w w.heap.size A n vs ps) :
    Calls Tryz.prog 44 #[.slice A n c] w fun e w' => PcsNew w w' e (normal ps) := by
  have hl := hA.len
  have hAh := Lib.hid hA
  have hlh := Lib.hid hl
  have hsumh := Lib.hid hsum
  have hsmh := Lib.hid hsm
  have hst := Lib.hid (NorS.start w)
  clear hA hsum hsm hl
  go_enter Tryz.func44, Tryz.ntmps44
  go_wp2
  go_loopw [7, 12] (fun _ s12 wr => ∃ (i : Nat) (v u : Value) (qs : List (PcV × Pc)), i ≤ n ∧ s12 = .int .i64 i ∧ Hid (NorS w wr v qs u) ∧ Hid ((qs.map fun q => q.2) = normal (ps.take i))) (fun _ s12 _ => n - (intOf s12).toNat)
  case atStart => exact ⟨0, _, _, [], Nat.zero_le _, rfl, hst, Lib.hid rfl⟩
  case round =>
    obtain ⟨i, v, u, qs, hin, rfl, hP, hN⟩ := hrel
    obtain ⟨wo, rfl⟩ : ∃ wo : World, wo = wr := ⟨_, rfl⟩
    clear hst
    have hql : qs.length ≤ i := by
      have h1 := congrArg List.length hN.out
      rw [List.length_map] at h1
      have h2 := len_normal (ps.take i)
      have h3 : (ps.take i).length ≤ i := List.length_take_le _ _
      omega
    by_cases hlt : i < n
    · obtain ⟨b, o, cf, At, nt, ct, Ab, nb, cb, As, ns, cs, t, bs, ss, rfl, hb, hv, hp, k1, k2, k3, k4, ⟨j1, j2, j3⟩⟩ := (hAh.out.below hP.out.below).at_ (k := i) hlt
      have i1 : (0 : Int) ≤ (i : Int) := by omega
      have i2 : (i : Int) < (n : Int) := by omega
      have hsz := hP.out.below.size
      have hb2 : b < wo.heap.size := by omega
      have hfl := hP.out.fn.lt
      have hstep := Lib.hid (normal_take hp)
      obtain ⟨Wp, hWp⟩ : ∃ Wp, Wp = wo.alloc (pcObj cf ((At, nt, ct), (Ab, nb, cb), (As, ns, cs))) := ⟨_, rfl⟩
      have hbp : Below wo.heap.size wo Wp := by rw [hWp]; exact (Below.refl _ _).alloc (Nat.le_refl _) _
      have hPp := Lib.hid (hP.out.up hbp)
      cases cf
      · have hlt2 : t.length = nt := j1.2.2.len
        by_cases h0 : nt = 0
        · subst h0
          have hte : t = [] := List.eq_nil_of_length_eq_zero hlt2
          have hst2 : Hid (normal (ps.take (i + 1)) = normal (ps.take i)) := Lib.hid (by rw [hstep.out, hte]; rfl)
          have hWph := Lib.hid hWp
          clear hp hv j1 j2 j3 hbp hWp hstep hte hlt2
          go_wp2
          go_roundw
          case rel => exact ⟨i + 1, v, u, qs, by omega, by go_num, Lib.hid (by have := hPp.out; rw [hWph.out] at this; exact this), Lib.hid (by rw [hst2.out]; exact hN.out)⟩
          case measure => simp [intOf]; omega
        · have hte : t ≠ [] := by rintro rfl; simp at hlt2; omega
          have h1 : (0 : Int) < (nt : Int) := by omega
          have h2 : decide ((0 : Int) < (nt : Int)) = true := by simpa using h1
          have hst2 : Hid (normal (ps.take (i + 1)) = pushT (normal (ps.take i)) t) := Lib.hid (by rw [hstep.out, push_text _ _ _ hte])
          have hntl : nt ≤ 1000000 := by
            have h3 := sumT_mem (List.mem_of_getElem? hp)
            dsimp only at h3
            have h4 := hsumh.out
            omega
          have hQ := Lib.hid (norText_any At nt ct v u qs t w Wp hPp.out (by omega) hntl (j1.2.2.keep fun q hq => hbp.cell (by omega)) (fun q hq => by
            have h3 : q.2 ∈ normal (ps.take i) := by rw [← hN.out]; exact List.mem_map_of_mem hq
            have h4 := sumT_mem h3
            have h5 := sumT_normal (ps.take i)
            have h6 := sumT_take ps i
            have h7 := hsumh.out
            exact Nat.le_trans h4 (by omega)))
          have hWph := Lib.hid hWp
          rw [hWp] at hQ
          clear hp hv j1 j2 j3 hbp hWp hstep hte hlt2 hntl
          go_wp2_with (go_at_call 71; refine hQ.out.mono ?_; rintro e w1 ⟨rfl, v1, qs1, u1, hP1, hq1⟩; have hP1h := Lib.hid hP1; have hq1h := Lib.hid hq1; clear hP1 hq1)
          go_roundw
          case rel => exact ⟨i + 1, v1, u1, qs1, by omega, by go_num, hP1h, Lib.hid (by rw [hst2.out, ← hN.out]; exact hq1h.out)⟩
          case measure => simp [intOf]; omega
      · have hst2 : Hid (normal (ps.take (i + 1)) = normal (ps.take i) ++ [cPc bs ss]) := Lib.hid (by rw [hstep.out]; rfl)
        have hsmp : ss.length ≤ 1000 ∧ ∀ d ∈ bs :: ss, d.length ≤ 1000000 := hsmh.out _ (List.mem_of_getElem? hp)
        have hnsl : ns ≤ 1000 := by obtain ⟨_, _, rr, h5⟩ := j3; have := h5.len; dsimp only at this; omega
        have hC : Hid (Calls Tryz.prog 74 #[.slice Ab nb cb, .slice As ns cs] Wp fun e w' => ConfOut Wp w' e bs ss) := Lib.hid (by
          obtain ⟨_, _, rr, h5⟩ := j3
          exact conflict_any Ab nb cb bs As ns cs rr ss Wp hnsl hsmp.2 ((j2.more hsz).up hbp) ((h5.more hsz).up hbp))
        have hput : Hid (∀ (w1 : World) (r : PcV), Below Wp.heap.size Wp w1 → Calls Tryz.prog 72 #[.pointer (some ⟨w.heap.size, 0, none⟩), .slice (some ⟨w1.heap.size, 0, none⟩) 1 1] (w1.alloc (pcObj true r)) fun e w' => e = .returned (.tuple #[]) ∧ ∃ v' w2, w' = w2.setCell ⟨w.heap.size, 0, none⟩ v' ∧
            w2.ownsRow w.heap.size 40 4 v' (qs.length + 1) (pcCs qs ++ pcC true r) ∧ (w1.alloc (pcObj true r)).grownBy w2 v.ownBlock ∧ (v'.ownBlock = v.ownBlock ∨ v'.ownBlock = some (w1.alloc (pcObj true r)).heap.size)) := Lib.hid (fun w1 r hb1 => by
          have hP1 := (hPp.out.up hb1).up ((Below.refl _ w1).alloc (Nat.le_refl _) (pcObj true r))
          exact pilePutP_any w.heap.size w.heap.size qs.length w1.heap.size v (pcCs qs) true r _ (by omega) hP1.box hP1.own hP1.below.size (one_a _ _))
        have hnew : Hid (∀ (w1 w2 : World) (r : PcV) (v' : Value), Below Wp.heap.size Wp w1 → (∀ w3, But (fun k => k < Wp.heap.size) w1 w3 → PcR w3 w3.heap.size r (cPc bs ss)) → w2.ownsRow w.heap.size 40 4 v' (qs.length + 1) (pcCs qs ++ pcC true r) → (w1.alloc (pcObj true r)).grownBy w2 v.ownBlock → (v'.ownBlock = v.ownBlock ∨ v'.ownBlock = some (w1.alloc (pcObj true r)).heap.size) →
            NorS w (w2.setCell ⟨w.heap.size, 0, none⟩ v') v' (qs ++ [(r, cPc bs ss)]) (.slice none 0 0)) := Lib.hid (fun w1 w2 r v' hb1 hPc h1 h2 h3 =>
          hPp.out.put (p := cPc bs ss) (hb1.alloc hb1.size _) (fun _ w3 h4 => hPc w3 ((But.alloc w1 _).trans h4 fun k e => .inl e)) h1 h2 h3 (fun h => by cases h) (fun _ => rfl))
        have hWph := Lib.hid hWp
        rw [hWp] at hC hput hnew
        clear hp hv j1 j2 j3 hbp hWp hstep hsmp hnsl
        go_wp2_with (first
          | (go_at_call 74; refine hC.out.mono ?_; rintro e w1 ⟨Ab1, nb1, cb1, As1, ns1, cs1, rfl, hPc, hb1⟩; have hQ := Lib.hid (hput.out w1 ((none, 0, 0), (Ab1, nb1, cb1), (As1, ns1, cs1)) hb1); have hPch := Lib.hid (And.intro hb1 hPc); clear hPc hb1)
          | (go_at_call 72; refine hQ.out.mono ?_; rintro e w3 ⟨rfl, v', w2, rfl, h1, h2, h3⟩; have hfin := Lib.hid (hnew.out _ _ _ _ hPch.out.1 hPch.out.2 h1 h2 h3); clear h1 h2 h3))
        go_roundw
        case rel => exact ⟨i + 1, v', _, _, by omega, by go_num, hfin, Lib.hid (by rw [hst2.out, ← hN.out, List.map_append]; rfl)⟩
        case measure => simp [intOf]; omega
    · obtain rfl : i = n := by omega
      have ht : Hid (ps.take i = ps) := Lib.hid (List.take_of_length_le (by rw [hlh.out]; exact Nat.le_refl _))
      have x0 := hP.out.box.cell
      have hout := Lib.hid hP.out.fresh
      go_wp2
      go_ret
      have h1 := hout.out
      rw [hN.out, ht.out] at h1
      exact h1
theorem normal_ok : PickNormalOk := fun A n c vs ps w h1 h2 h3 h4 h5 h6 => (normal_new A n c vs ps w h1 h2 h3 h4 h5 h6).mono fun e w' h => h.out
end Go.Proofs.YtcpopnhnihbofaaGreatDoor
