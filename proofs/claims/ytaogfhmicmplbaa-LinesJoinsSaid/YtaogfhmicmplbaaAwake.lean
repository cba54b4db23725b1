/- Proved here: awake returns true, and nothing that was there has turned. -/
import Derived.Lib.SlBytesConst
import Derived.Test.YtaogfhmicmplbaaSplit
import Derived.Test.YtaogfhmicmplbaaJoin
import Derived.Test.YtaogfhmicmplbaaRefSplit
namespace Go.Proofs.Ytaogfhmicmplbaa
open Go.RowKit
set_option linter.unusedVariables false

theorem own_slice {w : World} {base n : Nat} {e : TypeId} {v : Value} {xs : List Value} (h : w.ownsRow base e 1 v n xs) : ∃ A c, v = .slice A n c ∧ n ≤ c ∧ c ≤ maxLen ∧ Reads w w.heap.size A n xs := by
  rcases h.2 with ⟨rfl, rfl⟩ | ⟨g, cap, cur, rfl, _, _, hnc, hcm, _⟩
  · exact ⟨none, 0, rfl, Nat.le_refl _, Nat.zero_le _, Reads.of_own h⟩
  · exact ⟨_, cap, rfl, hnc, hcm, Reads.of_own h⟩

theorem Split_any (A : Option Addr) (len c : Nat) (bs : List UInt8) (w : World) (hlen : bs.length ≤ 1000000000000) (hA : Byts w w.heap.size A len bs) :
    Calls Try.prog 9 #[.slice A len c] w fun e w' => ∃ A' n c', e = .returned (.slice A' n c') ∧ n = (splitL bs).length ∧ n ≤ c' ∧ c' ≤ maxLen ∧ Strs w' w'.heap.size A' n (splitL bs) ∧ Below w.heap.size w w' := by
  refine (callsIn_wide.1 (Split_in 3 (by omega) A len c bs w hlen hA)).mono ?_
  rintro e w' ⟨v, rfl, hown, hB⟩
  obtain ⟨A', c', rfl, hnc, hcm, hr⟩ := own_slice hown
  exact ⟨A', _, c', rfl, rfl, hnc, hcm, hr, hB⟩

theorem rSplit_at (A : Option Addr) (n c : Nat) (bs : List UInt8) (w : World) (hlen : n ≤ 1000000000000) (hnc : n ≤ c) (hA : Byts w w.heap.size A n bs) :
    Calls Try.prog 11 #[.slice A n c] w fun e w' => ∃ A' n' c', e = .returned (.slice A' n' c') ∧ n' = (splitL bs).length ∧ n' ≤ c' ∧ c' ≤ maxLen ∧ Strs w' w'.heap.size A' n' (splitL bs) ∧ Below w.heap.size w w' := by
  refine (rSplit_any A n c bs w hlen hnc hA).mono ?_
  rintro e w' ⟨v, rfl, hown, hB⟩
  obtain ⟨A', c', rfl, hnc, hcm, hr⟩ := own_slice hown
  exact ⟨A', _, c', rfl, rfl, hnc, hcm, hr, hB⟩

theorem Join_at (A : Option Addr) (m c : Nat) (rows : List (Option Addr × Nat × Nat)) (sss : List (List (List UInt8))) (w : World) (hm : m ≤ maxLen) (hrn : ∀ ss ∈ sss, ss.length ≤ maxLen)
    (hT : (joinL sss).length ≤ 1000000000000) (hA : Rows2 w w.heap.size A m rows sss) :
    Calls Try.prog 15 #[.slice A m c] w fun e w' => ∃ A' n' c', e = .returned (.slice A' n' c') ∧ n' = (joinL sss).length ∧ n' ≤ c' ∧ c' ≤ maxLen ∧ Byts w' w'.heap.size A' n' (joinL sss) ∧ Below w.heap.size w w' := by
  refine (Join_any A m c rows sss w hm hrn hT hA).mono ?_
  rintro e w' ⟨v, rfl, hown, hB⟩
  obtain ⟨A', c', rfl, hnc, hcm, hr⟩ := own_slice hown
  exact ⟨A', _, c', rfl, rfl, hnc, hcm, hr, hB⟩

/-- A new block of slice values, each of which reads as its list. -/
theorem Rows2.new {w : World} {rows : List (Option Addr × Nat × Nat)} {sss : List (List (List UInt8))} (t : TypeId) (n : Nat) (C : Array Value) (hC : C = (rows.map fun r => Value.slice r.1 r.2.1 r.2.2).toArray) (hn : rows.length = n) (hl : rows.length = sss.length) (h : ∀ (k : Nat) (r : Option Addr × Nat × Nat) (ss : List (List UInt8)), rows[k]? = some r → sss[k]? = some ss → Strs w w.heap.size r.1 r.2.1 ss) :
    Rows2 (w.alloc (.cells C t)) (w.alloc (.cells C t)).heap.size (some ⟨w.heap.size, 0, none⟩) n rows sss := by
  subst hC
  refine ⟨⟨by simpa using hn, fun _ => ⟨w.heap.size, 0, rfl, by simp, fun j u hu => ?_⟩⟩, hl, fun k r ss h1 h2 => ?_⟩
  · rw [World.cell?_alloc_mark]
    simpa using hu
  · exact Reads.more (Reads.keep (h k r ss h1 h2) fun p hp => World.cell?_alloc_lt _ _ p hp) (by simp)

set_option maxHeartbeats 1000000 in
theorem awake_any (w : World) :
    Calls Try.prog 8 #[] w fun e w' => e = .returned (.bool true) ∧ Below w.heap.size w w' := by
  have hb0 : Byts (w.alloc (.cells #[.int .u8 97, .int .u8 10, .int .u8 98] 5 (3, 4))) (w.alloc (.cells #[.int .u8 97, .int .u8 10, .int .u8 98] 5 (3, 4))).heap.size (some ⟨w.heap.size, 0, none⟩) 3 [97, 10, 98] := by
    refine ⟨rfl, fun _ => ⟨w.heap.size, 0, rfl, by simp, fun j u hu => ?_⟩⟩
    rw [World.cell?_alloc_mark]
    simpa using hu
  have kc := fun (w : World) (C : Array Value) (n c : Nat) => Lib.run_convert_bytes_const (P := Try.prog) w 22 5 C n c Try.underlying22 Try.underlying5
  go_enter Try.func8, Try.ntmps8
  go_wp2_with fail
  refine (Split_any _ _ _ [97, 10, 98] _ (by decide) hb0).mono ?_
  rintro e w1 ⟨A, n, c, rfl, hn, hnc, hcm, hst, hB⟩
  have h2 : n = 2 := hn
  subst h2
  clear hn hb0
  obtain ⟨b, o, t0, rfl, hb, ht0, hc0⟩ := hst.at_ (k := 0) (by omega)
  obtain ⟨b', o', t1, e1, hb', ht1, hc1⟩ := hst.at_ (k := 1) (by omega)
  injection e1 with e1; injection e1 with e1 e2; subst e1; subst e2
  injection ht0 with ht0; subst ht0
  injection ht1 with ht1; subst ht1
  have hc0' : w1.cell? ⟨b, o, none⟩ = some (.string ⟨#[97, 10]⟩) := hc0
  have hc1' : w1.cell? ⟨b, o + 1, none⟩ = some (.string ⟨#[98]⟩) := hc1
  clear hc0 hc1
  have hO := Open_any (some ⟨b, o, none⟩) 2 c _ _ w1 (by decide) (by decide) hst
  have hM := May_any (some ⟨b, o, none⟩) 2 c _ _ w1 (by decide) (by decide) hst
  rw [show openB (splitL [97, 10, 98]) = true from rfl] at hO
  rw [show mayB (splitL [97, 10, 98]) = true from rfl] at hM
  have hO' := Lib.hid hO
  have hM' := Lib.hid hM
  clear hO hM
  go_wp2_with (first
    | (go_at_call 13; refine hO'.out.mono ?_; rintro e w' ⟨rfl, rfl⟩)
    | (go_at_call 12; refine hM'.out.mono ?_; rintro e w' ⟨rfl, rfl⟩))
  have hr2 : Rows2 (w1.alloc (.cells #[.slice (some ⟨b, o, none⟩) 2 c, .slice (some ⟨b, o, none⟩) 2 c] 24)) (w1.alloc (.cells #[.slice (some ⟨b, o, none⟩) 2 c, .slice (some ⟨b, o, none⟩) 2 c] 24)).heap.size (some ⟨w1.heap.size, 0, none⟩) 2 [(some ⟨b, o, none⟩, 2, c), (some ⟨b, o, none⟩, 2, c)] [splitL [97, 10, 98], splitL [97, 10, 98]] := by
    refine Rows2.new _ 2 _ rfl rfl rfl fun k r ss h1 h2 => ?_
    have hr : r = (some ⟨b, o, none⟩, 2, c) := by
      have := List.mem_of_getElem? h1
      simpa using this
    have hs : ss = splitL [97, 10, 98] := by
      have := List.mem_of_getElem? h2
      simpa using this
    subst hr; subst hs
    exact hst
  refine (Join_at _ 2 2 _ _ _ (by decide) (by decide) (by decide) hr2).mono ?_
  rintro e w2 ⟨A2, n2, c2, rfl, hn2, hnc2, hcm2, hby, hB2⟩
  clear hr2 hM' hO'
  have hcv := conv_bytes (P := Try.prog) hby c2 Try.underlying22 Try.underlying5 Try.underlying9
  rw [show str (joinL [splitL [97, 10, 98], splitL [97, 10, 98]]) = ⟨#[97, 10, 98, 97, 10, 98]⟩ from rfl] at hcv
  have h6 : n2 = 6 := hn2
  subst h6
  clear hn2
  go_wp2_with fail
  have hne : Strs (w2.alloc (.cells #[.string ⟨#[]⟩] 9)) (w2.alloc (.cells #[.string ⟨#[]⟩] 9)).heap.size (some ⟨w2.heap.size, 0, none⟩) 1 [[]] := by
    refine ⟨rfl, fun _ => ⟨w2.heap.size, 0, rfl, by simp, fun j u hu => ?_⟩⟩
    rw [World.cell?_alloc_mark]
    have h : [Value.string ⟨#[]⟩][j]? = some u := hu
    simpa using h
  refine (May_any _ 1 1 _ _ _ (by decide) (by decide) hne).mono ?_
  rintro e w' ⟨rfl, rfl⟩
  rw [show mayB [[]] = false from rfl]
  go_wp2
  go_ret
  refine ⟨rfl, ?_⟩
  have b1 : Below w.heap.size w w1 := ((Below.refl _ w).alloc (Nat.le_refl _) _).trans (hB.mono (by simp))
  have b2 : Below w.heap.size w w2 := (b1.alloc b1.size _).trans (hB2.mono (by have := b1.size; simp; omega))
  exact b2.alloc b2.size _

end Go.Proofs.Ytaogfhmicmplbaa
