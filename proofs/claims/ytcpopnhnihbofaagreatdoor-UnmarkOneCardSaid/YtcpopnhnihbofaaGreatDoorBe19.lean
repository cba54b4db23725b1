/- Proved here: texts joined: ZlRef, SzRef, SzSm, SzFits. -/
import Derived.Test.YtcpopnhnihbofaaGreatDoorBe04
import Derived.Test.YtcpopnhnihbofaaGreatDoorBe07
import Derived.Test.YtcpopnhnihbofaaGreatDoorBe16
import Derived.Test.YtcpopnhnihbofaaGreatDoorBe17
import Derived.Test.YtcpopnhnihbofaaGreatDoorBe18
import Derived.Deep.DeepCutAuto
import Derived.Outline
/- Proved here: the contract of the document's own answer of layer 10: Zeal. -/
namespace Go.Proofs.YtcpopnhnihbofaaGreatDoor
open Go.RowKit
set_option linter.unusedVariables false
set_option maxRecDepth 100000

section
variable {F : Nat → Prop} {wr w1 w2 : World} {v v' : Value} {qs ns : List (PcV × Pc)}
/-- Pieces more. -/
theorem RowF.puts (h : RowF F wr v qs) (hr : ∀ w3, But (fun k => F k ∨ v.ownBlock = some k) wr w3 → ∀ q ∈ ns, PcR w3 w3.heap.size q.1 q.2) (hg : wr.grownBy w2 v.ownBlock) (hloc : v'.ownBlock = v.ownBlock ∨ v'.ownBlock = some wr.heap.size) : RowF F w2 v' (qs ++ ns) := by
  have hb2 : But (fun k => F k ∨ v.ownBlock = some k) wr w2 := But.of_grown hg fun k e => .inr e
  intro w3 h3 q hq
  have hb3 : But (fun k => F k ∨ v.ownBlock = some k) wr w3 := hb2.trans h3 fun k e => by
    rcases e with e | e
    · exact .inl (.inl e)
    · rcases hloc with hl | hl
      · exact .inl (.inr (hl.symm.trans e))
      · rw [hl] at e
        injection e with e
        exact .inr (Nat.le_of_eq e)
  rcases List.mem_append.1 hq with hq | hq
  · exact h w3 hb3 q hq
  · exact hr w3 hb3 q hq
theorem zip_in {W : World} {B n : Nat} {A : Option Addr} {vs : List PcV} {ps : List Pc} (h : Pcs W B A n vs ps) : ∀ q ∈ vs.zip ps, PcR W B q.1 q.2 := by
  intro q hq
  obtain ⟨j, hj⟩ := List.mem_iff_getElem?.1 hq
  obtain ⟨a, b⟩ := List.getElem?_zip_eq_some.1 hj
  exact h.2.2.2 j _ _ a b
theorem zip_snd {W : World} {B n : Nat} {A : Option Addr} {vs : List PcV} {ps : List Pc} (h : Pcs W B A n vs ps) : (vs.zip ps).map (fun q => q.2) = ps ∧ (vs.zip ps).length = n := by
  have h1 := h.1
  have h2 := h.2.1
  refine ⟨?_, by rw [List.length_zip, h1, h2, Nat.min_self]⟩
  exact List.map_snd_zip (by omega)
end

set_option maxHeartbeats 8000000 in
theorem rZeal_any (lo : Nat) (A : Option Addr) (n c : Nat) (vs : List PcV) (ps : List Pc) (w : World) (hlo : lo ≤ w.heap.size) (hsm : smallZ ps) (hA : Pcs w lo A n vs ps) :
    Calls Tryz.prog 11 #[.slice A n c] w fun e w' => PcsLo lo w w' e (zealD ps) := by
  have hl := hA.len
  have hn100 : n ≤ 100 := by rw [← hl]; exact hsm.1
  obtain ⟨j0, hj, hyy⟩ := Option.map_eq_some_iff.1 infoPc
  simp only [Prod.mk.injEq] at hyy
  obtain ⟨hy0, hy1, hy2⟩ := hyy
  have hAh := Lib.hid hA
  have hlh := Lib.hid hl
  have hloh := Lib.hid hlo
  have hsmh := Lib.hid hsm
  clear hA hl hlo hsm
  go_enter Tryz.func11, Tryz.ntmps11
  go_wp2
  go_loopw [3, 4] (fun s3 s4 wr => ∃ (i : Nat) (v : Value) (qs : List (PcV × Pc)), i ≤ n ∧ s4 = .int .i64 i ∧ v = s3 ∧ Hid (wr.ownsRow w.heap.size 40 4 v qs.length (pcCs qs)) ∧ Hid (RowF (FLo lo w) wr v qs) ∧ Hid (qs.map (fun q => q.2) = (ps.take i).flatMap trimD) ∧ Hid (Below w.heap.size w wr)) (fun _ s4 _ => n - (intOf s4).toNat)
  case atStart => exact ⟨0, _, [], Nat.zero_le _, rfl, rfl, Lib.hid (World.ownsRow_nil _ _ _ _), Lib.hid (RowF.start _ _ _), Lib.hid rfl, Lib.hid (Below.refl _ _)⟩
  case round =>
    obtain ⟨i, v, qs, hi, rfl, rfl, hO, hR, hQ, hB⟩ := hrel
    obtain ⟨wo, rfl⟩ : ∃ wo : World, wo = wr := ⟨_, rfl⟩
    have hql : Hid (qs.length ≤ i * 3) := Lib.hid (by
      have h1 := congrArg List.length hQ.out
      rw [List.length_map] at h1
      have h2 := (flat_sum (ps := ps.take i) fun p hp => hsmh.out.2 p (List.mem_of_mem_take hp)).2
      have h3 : (ps.take i).length ≤ i := List.length_take_le _ _
      omega)
    by_cases hlt : i < n
    · have hAo : Pcs wo lo A n vs ps := hAh.out.keep fun q hq => hB.out.cell (by have := hloh.out; omega)
      obtain ⟨b, o, cf, At, nt, ct, Ab, nb, cb, As, ns, cs, t, bs, ss, rfl, hb, hv, hp, k1, k2, k3, k4, j1, j2, j3⟩ := hAo.at_ (k := i) hlt
      have i1 : (0 : Int) ≤ (i : Int) := by omega
      have i2 : (i : Int) < (n : Int) := by omega
      have hlo2 : lo ≤ wo.heap.size := Nat.le_trans hloh.out hB.out.size
      have hTr := Lib.hid (rTrim_any lo ((At, nt, ct), (Ab, nb, cb), (As, ns, cs)) (cf, t, bs, ss) wo hlo2 (hsmh.out.2 _ (List.mem_of_getElem? hp)) ⟨j1, j2, j3⟩)
      have hown := hO.out
      have hsz := hB.out.size
      have hstep := Lib.hid (show (ps.take (i + 1)).flatMap trimD = (ps.take i).flatMap trimD ++ trimD (cf, t, bs, ss) by rw [take_at hp, List.flatMap_append]; simp)
      have htl := Lib.hid (trimD_sum (hsmh.out.2 _ (List.mem_of_getElem? hp))).2
      obtain ⟨T, hT⟩ : ∃ T, trimD (cf, t, bs, ss) = T := ⟨_, rfl⟩
      rw [hT] at hTr hstep htl
      clear hv hp j1 j2 j3 hT hAo
      go_wp2_with (first
        | (go_at_call 32; refine hTr.out.mono ?_; rintro e w5 ⟨A5, n5, c5, vs5, rfl, q1, q2, q3, q4⟩; have h5 := Lib.hid (And.intro (And.intro q1 q2) (And.intro q3 q4)); have hP5 := q3 w5 (But.refl _ _); have hown5 := ownsRow_kept hown (w' := w5) (fun k e => q4.block k (hown.lt k e).2); have hsz5 : w.heap.size ≤ w5.heap.size := Nat.le_trans hsz q4.size; have hmax : Hid (qs.length + n5 ≤ maxLen ∧ (qs.length + n5) * 80 ≤ 140737488355328) := Lib.hid (by have h6 := hP5.len; have h7 := htl.out; have h8 := hql.out; unfold maxLen; omega); clear q1 q2 q3 q4)
        | (at_builtin; refine wpList_append_pcs _ rfl _ _ 22 rfl w.heap.size 40 j0 (.agg #[.bool false, .slice none 0 0, .slice none 0 0, .slice none 0 0]) Tryz.underlying22 hj hy0 hy1 hy2 rfl v qs.length _ rfl hown5 w5.heap.size A5 n5 c5 vs5 T rfl hP5 hmax.out.1 hmax.out.2 hsz5 ?_; intro v' w6 hown6 hg6 hloc6))
      have hz := zip_snd hP5
      have hO6 : Hid (w6.ownsRow w.heap.size 40 4 v' (qs ++ vs5.zip T).length (pcCs (qs ++ vs5.zip T))) := Lib.hid (by rw [List.length_append, hz.2, pcCs_app]; exact hown6)
      have hR6 : Hid (RowF (FLo lo w) w6 v' (qs ++ vs5.zip T)) := Lib.hid ((hR.out.up h5.out.2.2).puts (fun w3 h3 q hq => zip_in (h5.out.2.1 w3 (h3.more fun k e => by
        rcases e with e | e
        · unfold FLo at e; exact ⟨e.1, by omega⟩
        · have := hown.lt k e; have := hloh.out; exact ⟨by omega, by omega⟩)) q hq) hg6 hloc6)
      have hQ6 : Hid ((qs ++ vs5.zip T).map (fun q => q.2) = (ps.take (i + 1)).flatMap trimD) := Lib.hid (by rw [List.map_append, hz.1, hQ.out, hstep.out])
      have hB6 : Hid (Below w.heap.size w w6) := Lib.hid ((hB.out.trans (h5.out.2.2.mono hsz)).grown hg6 hsz5 (fun g e => (hown5.lt g e).1))
      clear hz hown6 hg6 hloc6 hown5 hP5
      go_roundw
      case rel => exact ⟨i + 1, v', _, by omega, by go_num, rfl, hO6, hR6, hQ6, hB6⟩
      case measure => simp [intOf]; omega
    · obtain rfl : i = n := by omega
      have hQf := hQ.out
      rw [List.take_of_length_le (by rw [hlh.out]; exact Nat.le_refl _)] at hQf
      obtain ⟨A2, c2, hv2, q1, q2, hP2⟩ := pcs_reads (w := w) hO.out fun q hq => hR.out wo (But.refl _ _) q hq
      have hsum := (flat_sum (ps := ps) hsmh.out.2).1
      have hNm := rNormalF_any (FLo lo w) A2 qs.length c2 (qs.map fun q => q.1) (qs.map fun q => q.2) wo (by have := hql.out; omega) (by rw [hQf]; have := hsmh.out.1; omega) hP2 (fun k hk => Nat.lt_of_lt_of_le hk.2 hB.out.size) (fun w2 hb j v p a b _ => by
        rw [List.getElem?_map] at a b
        cases hx : qs[j]? with
        | none => rw [hx] at a; cases a
        | some q =>
          rw [hx] at a b
          simp at a b
          subst a
          subst b
          exact hR.out w2 (hb.more fun k e => .inl e) q (List.mem_of_getElem? hx))
      rw [hQf] at hNm
      have hNh := Lib.hid hNm
      subst hv2
      clear hNm hP2 hQf hsum q1 q2
      go_wp2_with (go_at_call 33; refine hNh.out.mono ?_; rintro e w7 ⟨A9, n9, c9, vs9, rfl, h1, h2, h3, h4⟩; have h9 := Lib.hid (And.intro h1 (And.intro h2 (And.intro h3 h4))); clear h1 h2 h3 h4)
      go_ret
      exact ⟨A9, n9, c9, vs9, rfl, h9.out.1, h9.out.2.1, h9.out.2.2.1, hB.out.trans (h9.out.2.2.2.mono hB.out.size)⟩
end Go.Proofs.YtcpopnhnihbofaaGreatDoor
/- Proved here: contracts of the document's own answers of layer 11: sign, Run, Auto, Fits. -/
namespace Go.Proofs.YtcpopnhnihbofaaGreatDoor
open Go.RowKit
set_option linter.unusedVariables false
set_option maxRecDepth 100000

theorem signB_is (c : UInt8) : signB c = (((c.toNat : Int) == 60) || ((c.toNat : Int) == 124) || ((c.toNat : Int) == 61) || ((c.toNat : Int) == 62)) := by
  have h1 : ((c.toNat : Int) == 60) = (c == 60) := byte_is (c := c) (n := 60) (by omega)
  have h2 : ((c.toNat : Int) == 124) = (c == 124) := byte_is (c := c) (n := 124) (by omega)
  have h3 : ((c.toNat : Int) == 61) = (c == 61) := byte_is (c := c) (n := 61) (by omega)
  have h4 : ((c.toNat : Int) == 62) = (c == 62) := byte_is (c := c) (n := 62) (by omega)
  rw [h1, h2, h3, h4]
  rfl
set_option maxHeartbeats 400000 in
theorem rSign_any (c : UInt8) (w : World) : Calls Tryz.prog 91 #[.int .u8 (c.toNat : Int)] w fun e w' => e = .returned (.bool (signB c)) ∧ w' = w := by
  rw [signB_is]
  obtain ⟨a1, h1⟩ : ∃ a, ((c.toNat : Int) == 60) = a := ⟨_, rfl⟩
  obtain ⟨a2, h2⟩ : ∃ a, ((c.toNat : Int) == 124) = a := ⟨_, rfl⟩
  obtain ⟨a3, h3⟩ : ∃ a, ((c.toNat : Int) == 61) = a := ⟨_, rfl⟩
  obtain ⟨a4, h4⟩ : ∃ a, ((c.toNat : Int) == 62) = a := ⟨_, rfl⟩
  rw [h1, h2, h3, h4]
  cases a1 <;> cases a2 <;> cases a3 <;> cases a4 <;>
    (go_enter Tryz.func91, Tryz.ntmps91
     go_wp2
     go_ret
     exact ⟨rfl, rfl⟩)

/-- How far a run goes, by its bytes. -/
theorem run_at {t : Tx} {c : UInt8} {k : Nat} (hc : signB c = true) (h1 : 1 ≤ k) (hk : k ≤ t.length) (ha : ∀ i, i < k → t[i]? = some c) (he : k = t.length ∨ t[k]? ≠ some c) : runN t = k := by
  cases t with
  | nil => simp at hk; omega
  | cons x s =>
    have hx : x = c := by have := ha 0 (by omega); simpa using this
    subst hx
    rw [run_cons, if_pos hc]
    have key : ∀ (s : Tx) (m : Nat), m ≤ s.length → (∀ i, i < m → s[i]? = some x) → (m = s.length ∨ s[m]? ≠ some x) → (s.takeWhile fun y => y == x).length = m := by
      intro s
      induction s with
      | nil => intro m h _ _; simp at h; subst h; rfl
      | cons y s ih =>
        intro m h ha he
        cases m with
        | zero =>
          have hy : y ≠ x := by
            rcases he with he | he
            · simp at he
            · simpa using he
          rw [List.takeWhile_cons, if_neg (by simpa using hy)]
          rfl
        | succ m =>
          have hy : y = x := by have := ha 0 (by omega); simpa using this
          rw [List.takeWhile_cons, if_pos (by simpa using hy), List.length_cons, ih m (by simpa using h) (fun i hi => by have := ha (i + 1) (by omega); simpa using this) (by
            rcases he with he | he
            · exact .inl (by simpa using he)
            · exact .inr (by simpa using he))]
    rw [key s (k - 1) (by simp at hk; omega) (fun i hi => by have := ha (i + 1) (by omega); simpa using this) (by
      rcases he with he | he
      · exact .inl (by simp at he; omega)
      · refine .inr ?_
        have e : k = (k - 1) + 1 := by omega
        rw [e, List.getElem?_cons_succ] at he
        exact he)]
    omega
theorem run_none {t : Tx} (h : ∀ c, t[0]? = some c → signB c = false) : runN t = 0 := by
  cases t with
  | nil => rfl
  | cons x s => rw [run_cons, if_neg (by rw [h x rfl]; simp)]

set_option maxHeartbeats 1000000 in
theorem rRun_bytes (s : ByteArray) (w : World) (hs : s.size ≤ maxLen) :
    Calls Tryz.prog 66 #[.string s] w fun e w' => e = .returned (.int .i64 (runN s.data.toList)) ∧ ∃ q, w' = w.drewN q := by
  unfold maxLen at hs
  have hsz : s.data.toList.length = s.size := (Lib.size_eq s).symm
  by_cases h0 : s.size = 0
  · have hz : (((s.size : Nat) : Int) == 0) = true := by rw [h0]; rfl
    have hr : Hid (runN s.data.toList = 0) := Lib.hid (run_none fun c hc => by have := (List.getElem?_eq_some_iff.1 hc).1; omega)
    clear hsz h0
    go_enter Tryz.func66, Tryz.ntmps66
    go_wp2
    go_ret
    exact ⟨ret_int (by rw [hr.out]; rfl), 0, rfl⟩
  · have hz : (((s.size : Nat) : Int) == 0) = false := by rw [beq_eq_false_iff_ne]; omega
    have h1 : 0 < s.size := by omega
    have hb0 := Lib.hid (byte_at s 0 h1)
    obtain ⟨b, hb⟩ : ∃ b, signB s[0] = b := ⟨_, rfl⟩
    have hS := rSign_any s[0] w
    rw [hb] at hS
    have hSh := Lib.hid hS
    have hbh := Lib.hid hb
    have hszh := Lib.hid hsz
    clear hS hb hsz h0
    cases b
    · have hr : Hid (runN s.data.toList = 0) := Lib.hid (run_none fun c hc => by rw [hb0.out] at hc; injection hc with hc; rw [← hc]; exact hbh.out)
      go_enter Tryz.func66, Tryz.ntmps66
      go_wp2_with (go_at_call 91; refine hSh.out.mono ?_; rintro e w1 ⟨rfl, rfl⟩)
      go_ret
      exact ⟨ret_int (by rw [hr.out]; rfl), 0, rfl⟩
    · go_enter Tryz.func66, Tryz.ntmps66
      go_wp2_with (go_at_call 91; refine hSh.out.mono ?_; rintro e w1 ⟨rfl, rfl⟩)
      go_loopw [3] (fun s3 wr => ∃ k : Nat, 1 ≤ k ∧ k ≤ s.size ∧ s3 = .int .i64 k ∧ Hid (∀ i, i < k → s.data.toList[i]? = some s[0]) ∧ ∃ q, wr = w1.drewN q) (fun s3 _ => s.size - (intOf s3).toNat)
      case atStart => exact ⟨1, Nat.le_refl _, h1, rfl, Lib.hid (fun i hi => by obtain rfl : i = 0 := (by omega); exact hb0.out), 0, rfl⟩
      case round =>
        obtain ⟨k, hk1, hk, rfl, hq, q, rfl⟩ := hrel
        by_cases hlt : k < s.size
        · have hli : (k : Int) < (s.size : Int) := by omega
          have hbk := Lib.hid (byte_at s k hlt)
          have i0 : (0 : Int) ≤ (k : Int) := by omega
          obtain ⟨r, hr⟩ : ∃ r, ((s[k].toNat : Int) == (s[0].toNat : Int)) = r := ⟨_, rfl⟩
          have hrr : Hid ((s[k] = s[0]) ↔ r = true) := Lib.hid (by
            rw [← hr, beq_iff_eq]
            exact ⟨fun h => by rw [h], fun h => UInt8.toNat_inj.1 (by exact_mod_cast h)⟩)
          cases r
          · have hfin := Lib.hid (run_at (t := s.data.toList) hbh.out hk1 (by rw [hszh.out]; exact hk) hq.out (.inr (by
              rw [hbk.out]
              intro h
              injection h with h
              have := hrr.out.1 h
              cases this)))
            go_wp2
            go_quiet (fail)
            obtain ⟨z1, rfl⟩ : ∃ z1, z1 = nq := ⟨_, rfl⟩
            go_wp2
            go_ret
            exact ⟨ret_int (by rw [hfin.out]), q + z1, World.drewN_drewN _ _ _⟩
          · have hnx := Lib.hid (show ∀ i, i < k + 1 → s.data.toList[i]? = some s[0] from fun i hi => by
              rcases Nat.lt_or_ge i k with h | h
              · exact hq.out i h
              · obtain rfl : i = k := by omega
                rw [hbk.out, hrr.out.2 rfl])
            go_wp2
            go_quiet (fail)
            obtain ⟨z1, rfl⟩ : ∃ z1, z1 = nq := ⟨_, rfl⟩
            go_wp2
            go_roundw
            case rel => exact ⟨k + 1, by omega, by omega, by go_num, hnx, q + z1, by simp⟩
            case measure => simp [intOf]; omega
        · obtain rfl : k = s.size := by omega
          have hfin := Lib.hid (run_at (t := s.data.toList) hbh.out hk1 (by rw [hszh.out]; exact Nat.le_refl _) hq.out (.inl hszh.out.symm))
          have n1 : ¬ (s.size : Int) < (s.size : Int) := by omega
          go_wp2
          go_quiet (fail)
          obtain ⟨z1, rfl⟩ : ∃ z1, z1 = nq := ⟨_, rfl⟩
          go_wp2
          go_ret
          exact ⟨ret_int (by rw [hfin.out]), q + z1, World.drewN_drewN _ _ _⟩
/-- Of a text. -/
theorem rRun_any (t : Tx) (w : World) (hs : t.length ≤ maxLen) : Calls Tryz.prog 66 #[.string (str t)] w fun e w' => e = .returned (.int .i64 (runN t)) ∧ ∃ q, w' = w.drewN q := by
  have := rRun_bytes (str t) w (by rw [str_size]; exact hs)
  rwa [str_data] at this
end Go.Proofs.YtcpopnhnihbofaaGreatDoor
/- Proved here, without conditions: files whose texts aren't too long; the greatest run as it is reckoned. -/
namespace Go.Proofs.YtcpopnhnihbofaaGreatDoor
open Go.RowKit
set_option linter.unusedVariables false
set_option maxRecDepth 100000

/-- Files whose texts aren't too long. -/
def smallF (files : List (List Tx)) : Prop := files.length ≤ 1000000 ∧ ∀ f ∈ files, f.length ≤ 10000 ∧ ∀ t ∈ f, t.length ≤ 1000000
theorem maxR_one (n : Nat) (t : Tx) : maxR n [t] = max n (runN t + 1) := rfl
theorem maxR_up {l : List Tx} {n m : Nat} (h : ∀ t ∈ l, t.length ≤ m) (hn : n ≤ m + 1) : maxR n l ≤ m + 1 := by
  rcases maxR_is (l := l) (n := n) with e | ⟨t, ht, e⟩
  · omega
  · have := run_le t
    have := h t ht
    omega
theorem flatF_take {files : List (List Tx)} {i : Nat} {f : List Tx} (h : files[i]? = some f) : (files.take (i + 1)).flatten = (files.take i).flatten ++ f := by
  rw [take_at h, List.flatten_append]
  simp
end Go.Proofs.YtcpopnhnihbofaaGreatDoor
/- Proved here: the contract of the document's own answer of layer 11: Fits. -/
namespace Go.Proofs.YtcpopnhnihbofaaGreatDoor
open Go.RowKit
set_option linter.unusedVariables false
set_option maxRecDepth 100000

set_option maxHeartbeats 1000000 in
theorem rFits_any (z : Int) (A : Option Addr) (n c B : Nat) (rows : List Slc) (files : List (List Tx)) (w : World) (hn : n ≤ maxLen) (hsm : smallF files) (hA : RowsT w B A n rows files) :
    Calls Tryz.prog 39 #[.int .i64 z, .slice A n c] w fun e w' => e = .returned (.bool (fitsB z files)) ∧ ∃ q, w' = w.drewN q := by
  have hl := hA.len
  have hAh := Lib.hid hA
  have hlh := Lib.hid hl
  have hsmh := Lib.hid hsm
  have hn1 : n ≤ 1000000 := by have := hsm.1; omega
  have hno : Hid (∀ t, t ∈ files.flatten → ¬ (runN t : Int) < z → fitsB z files = false) := Lib.hid (fun t ht h => by
    cases hf : fitsB z files with
    | false => rfl
    | true => exact absurd ((fits_iff.1 hf).2 t ht) h)
  clear hA hl hsm hn
  go_enter Tryz.func39, Tryz.ntmps39
  go_wp2
  go_loopw [5, 6] (fun s5 _ wr => ∃ i : Nat, i ≤ n ∧ s5 = .int .i64 i ∧ Hid (∀ t ∈ (files.take i).flatten, (runN t : Int) < z) ∧ ∃ q, wr = w.drewN q) (fun s5 _ _ => n - (intOf s5).toNat)
  case atStart => exact ⟨0, Nat.zero_le _, rfl, Lib.hid (by simp), 0, rfl⟩
  case round =>
    obtain ⟨i, hi, rfl, hm, q, rfl⟩ := hrel
    by_cases hlt : i < n
    · obtain ⟨b, o, A1, n1, c1, f, rfl, hb, hf, hr, hc, hnc, hcm, hst⟩ := hAh.out.at_ (k := i) hlt
      have i1 : (0 : Int) ≤ (i : Int) := by omega
      have i2 : (i : Int) < (n : Int) := by omega
      have hc' : Hid (∀ z, (w.drewN z).cell? ⟨b, o + i, none⟩ = some (.slice A1 n1 c1)) := Lib.hid (fun z => hc)
      have hfl : f.length = n1 := hst.len
      have hfh := Lib.hid hf
      have hsth := Lib.hid hst
      have hn1m : n1 ≤ 9223372036854775807 := by unfold maxLen at hcm; omega
      have hflh := Lib.hid hfl
      clear hf hr hst hc hfl hnc hcm
      go_wp2
      go_loopw [6] (fun s6 wr => ∃ j : Nat, j ≤ n1 ∧ s6 = .int .i64 j ∧ Hid (∀ t ∈ (files.take i).flatten ++ f.take j, (runN t : Int) < z) ∧ ∃ q, wr = w.drewN q) (fun s6 _ => n1 - (intOf s6).toNat)
      case atStart => exact ⟨0, Nat.zero_le _, rfl, Lib.hid (by simpa using hm.out), q, rfl⟩
      case round =>
        obtain ⟨j, hj, rfl, hm2, q2, rfl⟩ := hrel
        have hc2 := hc'.out q2
        by_cases hlt2 : j < n1
        · obtain ⟨b2, o2, t, rfl, hb2, ht, hct⟩ := hsth.out.at_ (k := j) hlt2
          have i3 : (0 : Int) ≤ (j : Int) := by omega
          have i4 : (j : Int) < (n1 : Int) := by omega
          have hct' : (w.drewN q2).cell? ⟨b2, o2 + j, none⟩ = some (.string (str t)) := hct
          have htl : t.length ≤ 1000000 := (hsmh.out.2 f (List.mem_of_getElem? hfh.out)).2 t (List.mem_of_getElem? ht)
          have hR := rRun_any t (w.drewN q2) (by unfold maxLen; omega)
          obtain ⟨r, hr⟩ : ∃ r, runN t = r := ⟨_, rfl⟩
          rw [hr] at hR
          have hRh := Lib.hid hR
          have hth := Lib.hid ht
          have hrh := Lib.hid hr
          clear hR hr ht hct htl
          by_cases hz : z ≤ (r : Int)
          · have hno2 := Lib.hid (hno.out t (List.mem_flatten.2 ⟨f, List.mem_of_getElem? hfh.out, List.mem_of_getElem? hth.out⟩) (by rw [hrh.out]; omega))
            go_wp2_with (go_at_call 66; refine hRh.out.mono ?_; rintro e w1 ⟨rfl, q3, rfl⟩)
            go_ret
            exact ⟨ret_bool (by rw [hno2.out]), q2 + q3, rfl⟩
          · have hnx := Lib.hid (show ∀ t ∈ (files.take i).flatten ++ f.take (j + 1), (runN t : Int) < z from fun x hx => by
              rw [take_at hth.out, ← List.append_assoc] at hx
              rcases List.mem_append.1 hx with hx | hx
              · exact hm2.out x hx
              · rw [List.mem_singleton.1 hx, hrh.out]; omega)
            have hz2 : ¬ z ≤ (r : Int) := hz
            go_wp2_with (go_at_call 66; refine hRh.out.mono ?_; rintro e w1 ⟨rfl, q3, rfl⟩)
            go_roundw
            case rel => exact ⟨j + 1, by omega, by go_num, hnx, q2 + q3, by simp⟩
            case measure => simp [intOf]; omega
        · obtain rfl : j = n1 := by omega
          have hend := Lib.hid (show ∀ t ∈ (files.take (i + 1)).flatten, (runN t : Int) < z from by
            have := hm2.out
            rw [List.take_of_length_le (l := f) (by rw [hflh.out]; exact Nat.le_refl _), ← flatF_take hfh.out] at this
            exact this)
          go_wp2
          go_roundw
          case rel => exact ⟨i + 1, by omega, by go_num, hend, q2, rfl⟩
          case measure => simp [intOf]; omega
    · obtain rfl : i = n := by omega
      have hend := Lib.hid (show decide (1 ≤ z) = fitsB z files from by
        have := hm.out
        rw [List.take_of_length_le (l := files) (by rw [hlh.out]; exact Nat.le_refl _)] at this
        rw [Bool.eq_iff_iff, decide_eq_true_eq, fits_iff]
        exact ⟨fun h => ⟨h, this⟩, fun h => h.1⟩)
      go_wp2
      go_ret
      exact ⟨ret_bool (by rw [← hend.out]), q, rfl⟩
end Go.Proofs.YtcpopnhnihbofaaGreatDoor
