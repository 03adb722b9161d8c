/- The iterator along; the contracts of farthest. -/
import Derived.Test.YthkdjklpegmnnaaTrieC
import Derived.Deep.RegionHeld3
namespace Go.Proofs.Ythkdjklpegmnnaa.Tri
open Go Go.RowKit Go.Shelf
set_option linter.unusedVariables false
attribute [local go_sem] Oper.semAt_some

/-- how far a text leads -/
def Far (t : List Nd) (s : ByteArray) (m : Nat) : Prop := m ≤ s.size ∧ (go t 0 (s.data.toList.take m)).isSome = true ∧ (m = s.size ∨ go t 0 (s.data.toList.take (m + 1)) = none)
def atN (t : List Nd) (s : ByteArray) (k : Nat) : Nat := (go t 0 (s.data.toList.take k)).getD 0
theorem atN_of {t : List Nd} {s : ByteArray} {k a : Nat} (h : go t 0 (s.data.toList.take k) = some a) : atN t s k = a := by unfold atN; rw [h]; rfl
set_option maxRecDepth 100000 in
set_option maxHeartbeats 4000000 in
theorem along1_c (n l sb tb tc : Nat) (ta : Option Addr) (t : List Nd) (s : ByteArray) (J : Nat → World → Prop) (hs : s.size ≤ maxLen) (hf : fitT t) (hok : okT t)
    (hJb : ∀ k W W', J k W → Below W.heap.size W W' → J k W') (hrd : ∀ k W, J k W → (W.cell? ⟨sb, 0, none⟩ = some (.string s) ∧ W.cell? ⟨tb, 0, none⟩ = some (.slice ta t.length tc) ∧ TrL W ta t) ∧ l < W.heap.size)
    (hY : ∀ k W, J k W → (k ≤ s.size ∧ (go t 0 (s.data.toList.take k)).isSome = true) → YieldAt Fence.wide (n - 1) Try.prog l #[.int .i64 k, .int .i64 (atN t s k)] W fun e W' => e = .returned (.bool true) ∧ J (k + 1) W')
    (W : World) (h0 : J 0 W) :
    CallsIn Fence.wide n Try.prog 29 #[.func (.yield l) #[] #[], .pointer (some ⟨sb, 0, none⟩), .pointer (some ⟨tb, 0, none⟩)] W fun e W' => ∃ v m, e = .returned v ∧ J (m + 1) W' ∧ Far t s m := by
  unfold maxLen at hs
  have HF := hideH hf
  have HO := hideH hok
  have HJb := hideH hJb
  have Hrd := hideH hrd
  have HY := hideH hY
  have H0 := hideH h0
  have hmix : Try.prog.follows .mixedOrders = true := by kernel_rfl
  clear hJb hrd hY h0 hf hok
  refine callsIn_of_wp Try.func29 rfl trivial ?_ rfl
  simp only [Try.ntmps29, List.size_toArray, List.length_cons, List.length_nil, Nat.reduceAdd, Nat.reduceSub, Array.replicate_succ, Array.replicate_zero, List.push_toArray, List.append_toArray, List.nil_append, List.cons_append]
  gi_wp2
  gi_loopw [4, 5] (fun x4 x5 wr => ∃ k a : Nat, k ≤ s.size ∧ x4 = .int .i64 a ∧ x5 = .int .i64 k ∧ Hid (go t 0 (s.data.toList.take k) = some a) ∧ Hid (J k wr)) (fun _ x5 _ => s.size + 1 - (intOf x5).toNat)
  case atStart => exact ⟨0, 0, Nat.zero_le _, rfl, rfl, rfl, H0⟩
  case round =>
    obtain ⟨k, a, hk, rfl, rfl, HG, HJ⟩ := hrel
    have hy1 := HY.out k wr HJ.out ⟨hk, by rw [HG.out]; rfl⟩
    rw [atN_of HG.out] at hy1
    obtain ⟨fn, tmps, assign, body, hy, hR⟩ := hy1
    have HR := hideH hR
    clear hR
    have hal : a < t.length := go_lt HO.out _ 0 a HO.out.1 HG.out
    by_cases hlt : k < s.size
    · gi_wp2
      refine ⟨fun h => by simp [Fence.wide] at h, ?_⟩
      refine HR.out.mono ?_
      rintro e W3 ⟨rfl, hJ3⟩
      have HJ3 := hideH hJ3
      obtain ⟨⟨c1, c2, htr⟩, -⟩ := Hrd.out _ _ hJ3
      have hn0 := HF.out.len
      unfold maxLen at hn0
      have hrs := hideH (ok_rises HO.out hal)
      have hle := HF.out.es a hal
      rcases htr with h0 | ⟨b, off, rfl, hcs⟩
      · omega
      obtain ⟨ea, ec, d0, d1, d2⟩ := hcs a hal
      clear hcs hJ3 hy
      have D2 := hideH d2
      have hai : (a : Int) < (t.length : Int) := by omega
      have hki : (k : Int) < (s.size : Int) := by omega
      have HP := hideH (fun v (hv : Below W3.heap.size W3 v) => place_c ea ec (nod t a).es s[k] v (D2.out.on hv) hrs.out)
      have HGN := hideH (go_next hlt HG.out)
      have HE : Hid (∀ j, edg (nod t a).es s[k] = some j → cnt (nod t a).es s[k] < (nod t a).es.length ∧ eT (nod t a).es (cnt (nod t a).es s[k]) = j) := fun j hj => cnt_edge hrs.out hj
      unfold plP at HP
      clear d2
      have hB : Below W3.heap.size W3 W3.drew := (Below.refl _ W3).drew
      have HBd := hideH hB
      clear hB
      cases hed : edg (nod t a).es s[k] with
      | none =>
        rw [hed] at HP HGN
        clear hed HE
        generalize cnt (nod t a).es s[k] = ci at HP
        simp only [Option.isSome_none] at HP
        gi_wp2
        refine wpIn_wide.2 ?_
        go_region_held3 (fun v => v.cell? ⟨sb, 0, none⟩ = some (.string s) ∧ v.cell? ⟨tb, 0, none⟩ = some (.slice (some ⟨b, off, none⟩) t.length tc) ∧ v.cell? ⟨b, off + a * 2, none⟩ = some (.slice ea (nod t a).es.length ec)) (first | (exact ⟨c1, c2, d0⟩) | (exact ⟨cell_on (w := W3.drew) c1 hw4, cell_on (w := W3.drew) c2 hw4, cell_on (w := W3.drew) d0 hw4⟩)) ((go_at_call 27; refine (HP.out _ HBd.out).mono ?_; rintro e W4 ⟨rfl, hw4⟩))
        all_goals
          have HJ4 := hideH (HJb.out _ _ _ HJ3.out (bthen HBd.out hw4))
          clear hw4
          gi_wp2
          refine bodyPost_ret (results_none rfl _ _ _) rfl ?_
          exact ⟨_, k, rfl, HJ4.out, hk, by rw [HG.out]; rfl, .inr HGN.out⟩
      | some j =>
        rw [hed] at HP HGN
        obtain ⟨hci, hej⟩ := HE.out j hed
        have hld := ok_lead HO.out hal hci
        clear hed HE
        rw [hej] at hld
        rcases D2.out with h0 | ⟨eb, eo, rfl, hec⟩
        · omega
        have x1 := (hec _ hci).2
        rw [hej] at x1
        clear hec hej
        obtain ⟨ci, hcc⟩ : ∃ ci, ci = cnt (nod t a).es s[k] := ⟨_, rfl⟩
        rw [← hcc] at HP hci x1
        clear hcc
        have hcii : (ci : Int) < ((nod t a).es.length : Int) := by omega
        unfold maxLen at hle
        obtain ⟨j', rfl⟩ : ∃ j' : Nat, j = j' := ⟨j.toNat, by omega⟩
        simp only [Option.isSome_some] at HP
        have hall := hideH (show W3.cell? ⟨sb, 0, none⟩ = some (.string s) ∧ W3.cell? ⟨tb, 0, none⟩ = some (.slice (some ⟨b, off, none⟩) t.length tc) ∧ W3.cell? ⟨b, off + a * 2, none⟩ = some (.slice (some ⟨eb, eo, none⟩) (nod t a).es.length ec) ∧ W3.cell? ⟨eb, eo + ci * 2 + 1, none⟩ = some (.int .i64 j') from ⟨c1, c2, d0, x1⟩)
        have HGN2 : Hid (go t 0 (s.data.toList.take (k + 1)) = some j') := by show _ = _; rw [HGN.out]; rfl
        clear HGN x1
        gi_wp2
        refine wpIn_wide.2 ?_
        go_region_held3 (fun v => v.cell? ⟨sb, 0, none⟩ = some (.string s) ∧ v.cell? ⟨tb, 0, none⟩ = some (.slice (some ⟨b, off, none⟩) t.length tc) ∧ v.cell? ⟨b, off + a * 2, none⟩ = some (.slice (some ⟨eb, eo, none⟩) (nod t a).es.length ec)) (first | (exact ⟨c1, c2, d0⟩) | (exact ⟨cell_on (w := W3.drew) c1 hw4, cell_on (w := W3.drew) c2 hw4, cell_on (w := W3.drew) d0 hw4⟩)) ((go_at_call 27; refine (HP.out _ HBd.out).mono ?_; rintro e W4 ⟨rfl, hw4⟩))
        all_goals
          have HJ4 := hideH (HJb.out _ _ _ HJ3.out (bthen HBd.out hw4))
          obtain ⟨y1, y2, y3, y4⟩ := hall.out
          have z1 := cell_on y1 (bthen HBd.out hw4)
          have z2 := cell_on y2 (bthen HBd.out hw4)
          have z3 := cell_on y3 (bthen HBd.out hw4)
          have z4 := cell_on y4 (bthen HBd.out hw4)
          clear hw4 y1 y2 y3 y4 c1 c2 d0 d1 hall
          gi_wp2
          go_roundw
          case rel => exact ⟨k + 1, j', by omega, rfl, by go_num, HGN2, HJ4⟩
          case measure => simp [intOf]; omega
    · gi_wp2
      refine ⟨fun h => by simp [Fence.wide] at h, ?_⟩
      refine HR.out.mono ?_
      rintro e W3 ⟨rfl, hJ3⟩
      have HJ3 := hideH hJ3
      obtain ⟨⟨c1, c2, htr⟩, -⟩ := Hrd.out _ _ hJ3
      have hki : ¬ ((k : Int) < (s.size : Int)) := by omega
      clear htr hJ3 hy
      gi_wp2
      go_end0
      exact ⟨_, k, rfl, HJ3.out, hk, by rw [HG.out]; rfl, .inl (by omega)⟩
end Go.Proofs.Ythkdjklpegmnnaa.Tri
