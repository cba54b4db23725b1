/- Proved here: texts joined: ZlRef, ContAll. -/
import Derived.Test.YtidfhgocnglnjaaBz15
import Derived.Test.YtidfhgocnglnjaaBz16
import Derived.Test.YtidfhgocnglnjaaBz20
/- Proved here: the contract of the document's own answer of layer 10: Zeal. -/
namespace Go.Proofs.Ytidfhgocnglnjaa
open Go.RowKit
set_option linter.unusedVariables false
set_option maxRecDepth 100000

section
variable {F : Nat → Prop} {wr w1 w2 : World} {v v' : Value} {qs ns : List (PcV × Pc)}
/-- Pieces more. -/
theorem RowF.puts (h : RowF F wr v qs) (hr : ∀ w3, But (fun k => F k ∨ v.ownBlock = some k) wr w3 → ∀ q ∈ ns, PcR w3 w3.heap.size q.1 q.2) (hg : wr.grownBy w2 v.ownBlock) (hloc : v'.ownBlock = v.ownBlock ∨ v'.ownBlock = some wr.heap.size) : RowF F w2 v' (qs ++ ns) := by
  have hb2 : But (fun k => F k ∨ v.ownBlock = some k) wr w2 := But.of_grown hg fun k e => .inr e
  intro w3 h3 q hq
  have hb3 : But (fun k => F k ∨ v.ownBlock = some k) wr w3 := hb2.trans h3 fun k e => by
    rcases e with e | e
    · exact .inl (.inl e)
    · rcases hloc with hl | hl
      · exact .inl (.inr (hl.symm.trans e))
      · rw [hl] at e
        injection e with e
        exact .inr (Nat.le_of_eq e)
  rcases List.mem_append.1 hq with hq | hq
  · exact h w3 hb3 q hq
  · exact hr w3 hb3 q hq
theorem zip_in {W : World} {B n : Nat} {A : Option Addr} {vs : List PcV} {ps : List Pc} (h : Pcs W B A n vs ps) : ∀ q ∈ vs.zip ps, PcR W B q.1 q.2 := by
  intro q hq
  obtain ⟨j, hj⟩ := List.mem_iff_getElem?.1 hq
  obtain ⟨a, b⟩ := List.getElem?_zip_eq_some.1 hj
  exact h.2.2.2 j _ _ a b
theorem zip_snd {W : World} {B n : Nat} {A : Option Addr} {vs : List PcV} {ps : List Pc} (h : Pcs W B A n vs ps) : (vs.zip ps).map (fun q => q.2) = ps ∧ (vs.zip ps).length = n := by
  have h1 := h.1
  have h2 := h.2.1
  refine ⟨?_, by rw [List.length_zip, h1, h2, Nat.min_self]⟩
  exact List.map_snd_zip (by omega)
end

set_option maxHeartbeats 8000000 in
theorem rZeal_any (lo : Nat) (A : Option Addr) (n c : Nat) (vs : List PcV) (ps : List Pc) (w : World) (hlo : lo ≤ w.heap.size) (hsm : smallZ ps) (hA : Pcs w lo A n vs ps) :
    Calls Try.prog 14 #[.slice A n c] w fun e w' => PcsLo lo w w' e (zealD ps) := by
  have hl := hA.len
  have hn100 : n ≤ 100 := by rw [← hl]; exact hsm.1
  obtain ⟨j0, hj, hyy⟩ := Option.map_eq_some_iff.1 infoPc
  simp only [Prod.mk.injEq] at hyy
  obtain ⟨hy0, hy1, hy2⟩ := hyy
  have hAh := Lib.hid hA
  have hlh := Lib.hid hl
  have hloh := Lib.hid hlo
  have hsmh := Lib.hid hsm
  clear hA hl hlo hsm
  go_enter Try.func14, Try.ntmps14
  go_wp2
  go_loopw [3, 4] (fun s3 s4 wr => ∃ (i : Nat) (v : Value) (qs : List (PcV × Pc)), i ≤ n ∧ s4 = .int .i64 i ∧ v = s3 ∧ Hid (wr.ownsRow w.heap.size 25 4 v qs.length (pcCs qs)) ∧ Hid (RowF (FLo lo w) wr v qs) ∧ Hid (qs.map (fun q => q.2) = (ps.take i).flatMap trimD) ∧ Hid (Below w.heap.size w wr)) (fun _ s4 _ => n - (intOf s4).toNat)
  case atStart => exact ⟨0, _, [], Nat.zero_le _, rfl, rfl, Lib.hid (World.ownsRow_nil _ _ _ _), Lib.hid (RowF.start _ _ _), Lib.hid rfl, Lib.hid (Below.refl _ _)⟩
  case round =>
    obtain ⟨i, v, qs, hi, rfl, rfl, hO, hR, hQ, hB⟩ := hrel
    obtain ⟨wo, rfl⟩ : ∃ wo : World, wo = wr := ⟨_, rfl⟩
    have hql : Hid (qs.length ≤ i * 3) := Lib.hid (by
      have h1 := congrArg List.length hQ.out
      rw [List.length_map] at h1
      have h2 := (flat_sum (ps := ps.take i) fun p hp => hsmh.out.2 p (List.mem_of_mem_take hp)).2
      have h3 : (ps.take i).length ≤ i := List.length_take_le _ _
      omega)
    by_cases hlt : i < n
    · have hAo : Pcs wo lo A n vs ps := hAh.out.keep fun q hq => hB.out.cell (by have := hloh.out; omega)
      obtain ⟨b, o, cf, At, nt, ct, Ab, nb, cb, As, ns, cs, t, bs, ss, rfl, hb, hv, hp, k1, k2, k3, k4, j1, j2, j3⟩ := hAo.at_ (k := i) hlt
      have i1 : (0 : Int) ≤ (i : Int) := by omega
      have i2 : (i : Int) < (n : Int) := by omega
      have hlo2 : lo ≤ wo.heap.size := Nat.le_trans hloh.out hB.out.size
      have hTr := Lib.hid (rTrim_any lo ((At, nt, ct), (Ab, nb, cb), (As, ns, cs)) (cf, t, bs, ss) wo hlo2 (hsmh.out.2 _ (List.mem_of_getElem? hp)) ⟨j1, j2, j3⟩)
      have hown := hO.out
      have hsz := hB.out.size
      have hstep := Lib.hid (show (ps.take (i + 1)).flatMap trimD = (ps.take i).flatMap trimD ++ trimD (cf, t, bs, ss) by rw [take_at hp, List.flatMap_append]; simp)
      have htl := Lib.hid (trimD_sum (hsmh.out.2 _ (List.mem_of_getElem? hp))).2
      obtain ⟨T, hT⟩ : ∃ T, trimD (cf, t, bs, ss) = T := ⟨_, rfl⟩
      rw [hT] at hTr hstep htl
      clear hv hp j1 j2 j3 hT hAo
      go_wp2_with (first
        | (go_at_call 12; refine hTr.out.mono ?_; rintro e w5 ⟨A5, n5, c5, vs5, rfl, q1, q2, q3, q4⟩; have h5 := Lib.hid (And.intro (And.intro q1 q2) (And.intro q3 q4)); have hP5 := q3 w5 (But.refl _ _); have hown5 := ownsRow_kept hown (w' := w5) (fun k e => q4.block k (hown.lt k e).2); have hsz5 : w.heap.size ≤ w5.heap.size := Nat.le_trans hsz q4.size; have hmax : Hid (qs.length + n5 ≤ maxLen ∧ (qs.length + n5) * 80 ≤ 140737488355328) := Lib.hid (by have h6 := hP5.len; have h7 := htl.out; have h8 := hql.out; unfold maxLen; omega); clear q1 q2 q3 q4)
        | (at_builtin; refine wpList_append_pcs _ rfl _ _ 26 rfl w.heap.size 25 j0 (.agg #[.bool false, .slice none 0 0, .slice none 0 0, .slice none 0 0]) Try.underlying26 hj hy0 hy1 hy2 rfl v qs.length _ rfl hown5 w5.heap.size A5 n5 c5 vs5 T rfl hP5 hmax.out.1 hmax.out.2 hsz5 ?_; intro v' w6 hown6 hg6 hloc6))
      have hz := zip_snd hP5
      have hO6 : Hid (w6.ownsRow w.heap.size 25 4 v' (qs ++ vs5.zip T).length (pcCs (qs ++ vs5.zip T))) := Lib.hid (by rw [List.length_append, hz.2, pcCs_app]; exact hown6)
      have hR6 : Hid (RowF (FLo lo w) w6 v' (qs ++ vs5.zip T)) := Lib.hid ((hR.out.up h5.out.2.2).puts (fun w3 h3 q hq => zip_in (h5.out.2.1 w3 (h3.more fun k e => by
        rcases e with e | e
        · unfold FLo at e; exact ⟨e.1, by omega⟩
        · have := hown.lt k e; have := hloh.out; exact ⟨by omega, by omega⟩)) q hq) hg6 hloc6)
      have hQ6 : Hid ((qs ++ vs5.zip T).map (fun q => q.2) = (ps.take (i + 1)).flatMap trimD) := Lib.hid (by rw [List.map_append, hz.1, hQ.out, hstep.out])
      have hB6 : Hid (Below w.heap.size w w6) := Lib.hid ((hB.out.trans (h5.out.2.2.mono hsz)).grown hg6 hsz5 (fun g e => (hown5.lt g e).1))
      clear hz hown6 hg6 hloc6 hown5 hP5
      go_roundw
      case rel => exact ⟨i + 1, v', _, by omega, by go_num, rfl, hO6, hR6, hQ6, hB6⟩
      case measure => simp [intOf]; omega
    · obtain rfl : i = n := by omega
      have hQf := hQ.out
      rw [List.take_of_length_le (by rw [hlh.out]; exact Nat.le_refl _)] at hQf
      obtain ⟨A2, c2, hv2, q1, q2, hP2⟩ := pcs_reads (w := w) hO.out fun q hq => hR.out wo (But.refl _ _) q hq
      have hsum := (flat_sum (ps := ps) hsmh.out.2).1
      have hNm := rNormalF_any (FLo lo w) A2 qs.length c2 (qs.map fun q => q.1) (qs.map fun q => q.2) wo (by have := hql.out; omega) (by rw [hQf]; have := hsmh.out.1; omega) hP2 (fun k hk => Nat.lt_of_lt_of_le hk.2 hB.out.size) (fun w2 hb j v p a b _ => by
        rw [List.getElem?_map] at a b
        cases hx : qs[j]? with
        | none => rw [hx] at a; cases a
        | some q =>
          rw [hx] at a b
          simp at a b
          subst a
          subst b
          exact hR.out w2 (hb.more fun k e => .inl e) q (List.mem_of_getElem? hx))
      rw [hQf] at hNm
      have hNh := Lib.hid hNm
      subst hv2
      clear hNm hP2 hQf hsum q1 q2
      go_wp2_with (go_at_call 20; refine hNh.out.mono ?_; rintro e w7 ⟨A9, n9, c9, vs9, rfl, h1, h2, h3, h4⟩; have h9 := Lib.hid (And.intro h1 (And.intro h2 (And.intro h3 h4))); clear h1 h2 h3 h4)
      go_ret
      exact ⟨A9, n9, c9, vs9, rfl, h9.out.1, h9.out.2.1, h9.out.2.2.1, hB.out.trans (h9.out.2.2.2.mono hB.out.size)⟩
end Go.Proofs.Ytidfhgocnglnjaa
/- Proved here: the contract of the document's own answer of layer 6: All. -/
namespace Go.Proofs.Ytidfhgocnglnjaa
open Go.RowKit
set_option linter.unusedVariables false

theorem all_no {xs ys : List Txs} {k : Nat} {x y : Txs} (hx : xs[k]? = some x) (hy : ys[k]? = some y) (h : x ≠ y) : false = decide (xs = ys) := by
  rw [eq_comm, decide_eq_false_iff_not]
  rintro rfl
  rw [hx] at hy
  injection hy with hy
  exact h hy
theorem all_yes {xs ys : List Txs} {k : Nat} {x y : Txs} (hq : xs.take k = ys.take k) (hx : xs[k]? = some x) (hy : ys[k]? = some y) (h : x = y) : xs.take (k + 1) = ys.take (k + 1) := by
  rw [take_at hx, take_at hy, hq, h]

set_option maxHeartbeats 800000 in
theorem cAll_any (A A' : Option Addr) (n n' c c' B B' : Nat) (rows rows' : List Slc) (xs ys : List Txs) (w : World) (hn : n ≤ maxLen) (hn' : n' ≤ maxLen) (hA : RowsT w B A n rows xs) (hA' : RowsT w B' A' n' rows' ys) :
    Calls Try.prog 25 #[.slice A n c, .slice A' n' c'] w fun e w' => e = .returned (.bool (decide (xs = ys))) ∧ ∃ q, w' = w.drewN q := by
  have hl := hA.len
  have hl' := hA'.len
  unfold maxLen at hn hn'
  by_cases hnn : n = n'
  · subst hnn
    go_enter Try.func25, Try.ntmps25
    go_wp2
    go_loopw [5] (fun i wr => ∃ k : Nat, k ≤ n ∧ i = .int .i64 k ∧ Hid (xs.take k = ys.take k) ∧ ∃ q, wr = w.drewN q) (fun i _ => n - (intOf i).toNat)
    case atStart => exact ⟨0, Nat.zero_le _, rfl, Lib.hid rfl, 0, rfl⟩
    case round =>
      obtain ⟨k, hk, rfl, hq, q, rfl⟩ := hrel
      by_cases hlt : k < n
      · obtain ⟨b, o, A1, n1, c1, x, rfl, hb, hx, -, hc0, hnc, hcm, hst⟩ := hA.at_ (k := k) hlt
        obtain ⟨b', o', A2, n2, c2, y, rfl, hb', hy, -, hc0', hnc', hcm', hst'⟩ := hA'.at_ (k := k) hlt
        have hi1 : (0 : Int) ≤ (k : Int) := by omega
        have hi2 : (k : Int) < (n : Int) := by omega
        obtain ⟨bb, hbb⟩ : ∃ bb, decide (x = y) = bb := ⟨_, rfl⟩
        have hS := fun W (h1 : Strs W B A1 n1 x) (h2 : Strs W B' A2 n2 y) => Same_any A1 A2 n1 n2 c1 c2 B B' x y W (by omega) (by omega) h1 h2
        rw [hbb] at hS
        have hS' := Lib.hid (fun j => hS ((w.drewN q).drewN j) ((hst.drewN q).drewN j) ((hst'.drewN q).drewN j))
        have hS'' := Lib.hid (fun j => hS (w.drewN j) (hst.drewN j) (hst'.drewN j))
        have hbbh := Lib.hid hbb
        have hxh := Lib.hid hx
        have hyh := Lib.hid hy
        clear hS hbb hst hst' hx hy
        obtain ⟨wo, hwo⟩ : ∃ wo : World, wo = w.drewN q := ⟨_, rfl⟩
        rw [← hwo] at hS' ⊢
        have e0 : wo.cell? ⟨b, o + k, none⟩ = some (.slice A1 n1 c1) := by rw [hwo]; exact hc0
        have e1 : wo.cell? ⟨b', o' + k, none⟩ = some (.slice A2 n2 c2) := by rw [hwo]; exact hc0'
        have hwoh := Lib.hid hwo
        clear hwo hS'' hc0 hc0'
        go_wp2
        go_quiet ((go_at_call 15; exact Calls.quiet_of (hS'.out _)))
        obtain ⟨z1, rfl⟩ : ∃ z1, z1 = nq := ⟨_, rfl⟩
        cases bb
        · have hne : x ≠ y := by simpa using hbbh.out
          have hneh := Lib.hid hne
          clear hne
          go_wp2
          go_ret
          exact ⟨ret_bool (all_no hxh.out hyh.out hneh.out), q + z1, by rw [hwoh.out, World.drewN_drewN]⟩
        · have he : x = y := by simpa using hbbh.out
          have heh := Lib.hid he
          clear he
          go_wp2
          go_roundw
          case rel => exact ⟨k + 1, by omega, by go_num, Lib.hid (all_yes hq.out hxh.out hyh.out heh.out), q + z1, by rw [hwoh.out, World.drewN_drewN]⟩
          case measure => simp [intOf]; omega
      · go_wp2
        go_ret
        exact ⟨ret_bool (by rw [eq_comm, decide_eq_true_iff]; have := hq.out; rwa [List.take_of_length_le (by omega), List.take_of_length_le (by omega)] at this), q, rfl⟩
  · have hne : (((n : Int) != (n' : Int))) = true := by simp; omega
    go_enter Try.func25, Try.ntmps25
    go_wp2
    go_ret
    exact ⟨ret_bool (by rw [eq_comm, decide_eq_false_iff_not]; rintro rfl; omega), 0, rfl⟩
end Go.Proofs.Ytidfhgocnglnjaa
