/- The document's own: TrieFind, TrieLongest, of a right trie. -/
import Derived.Test.YthkdjklpegmnnaaTrieS
namespace Go.Proofs.Ythkdjklpegmnnaa.Tri
open Go Go.RowKit Go.Maps
set_option linter.unusedVariables false

def gI (t : List Nd) (s : ByteArray) (k : Nat) : Int := ((go t 0 (s.data.toList.take k)).map fun a => (a : Int)).getD (-1)
theorem gI_some {t : List Nd} {s : ByteArray} {k a : Nat} (h : go t 0 (s.data.toList.take k) = some a) : gI t s k = a := by unfold gI; rw [h]; rfl
theorem gI_none {t : List Nd} {s : ByteArray} {k : Nat} (h : go t 0 (s.data.toList.take k) = none) : gI t s k = -1 := by unfold gI; rw [h]; rfl
theorem gI_next {t : List Nd} (ho : okT t) {s : ByteArray} {k a : Nat} (hk : k < s.size) (h : go t 0 (s.data.toList.take k) = some a) (ha : a < t.length) : gI t s (k + 1) = eOf (nod t a).es s[k] := by
  unfold gI eOf
  rw [go_next hk h]
  cases he : edg (nod t a).es s[k] with
  | none => rfl
  | some j =>
    obtain ⟨h1, h2⟩ := cnt_edge (ok_rises ho ha) he
    have h3 := ok_lead ho ha h1
    rw [h2] at h3
    show ((j.toNat : Nat) : Int) = j
    omega
set_option maxRecDepth 100000 in
set_option maxHeartbeats 4000000 in
theorem TrieFind_c (ta : Option Addr) (tc : Nat) (t : List Nd) (s : ByteArray) (w : World) (hs : s.size ≤ maxLen) (hf : fitT t) (ho : okT t) (hP : TrL w ta t) :
    Calls Try.prog 17 #[.slice ta t.length tc, .string s] w fun e w' => ckP (findT t s.data.toList) w e w' := by
  have HP := hideH hP
  have HF := hideH hf
  have HO := hideH ho
  have hl := hf.len
  unfold maxLen at hl hs
  obtain ⟨N, hN⟩ : ∃ N, N = t.length := ⟨_, rfl⟩
  have HN := hideH hN
  rw [← hN] at hl ⊢
  clear hN hP hf ho
  go_enter Try.func17, Try.ntmps17
  go_wp2_with fail
  go_loopw [5, 6] (fun x5 x6 v => ∃ k : Nat, k ≤ s.size ∧ x6 = .int .i64 k ∧ x5 = .int .i64 (gI t s k) ∧ Hid (Below w.heap.size w v)) (fun _ x6 _ => s.size - (intOf x6).toNat)
  case atStart => exact ⟨0, Nat.zero_le _, rfl, rfl, Below.refl _ _⟩
  case round =>
    obtain ⟨k, hk, rfl, rfl, HW⟩ := hrel
    cases hg : go t 0 (s.data.toList.take k) with
    | none =>
      rw [gI_none hg]
      have HE : Hid (findT t s.data.toList = -1) := by
        have := go_none_more hg (n := s.size) hk
        rw [take_all] at this
        exact find_none this
      clear hg
      by_cases hlt : k < s.size
      · have hki : (k : Int) < (s.size : Int) := by omega
        go_wp2_with fail
        go_ret
        unfold ckP
        exact ⟨ret_int HE.out.symm, HW.out⟩
      · have hki : ¬ ((k : Int) < (s.size : Int)) := by omega
        go_wp2_with fail
        go_ret
        unfold ckP
        exact ⟨ret_int HE.out.symm, HW.out⟩
    | some a =>
      have hal := go_lt HO.out _ 0 a HO.out.1 hg
      rw [gI_some hg]
      rcases HP.out.on HW.out with h0 | ⟨b, off, rfl, hcs⟩
      · omega
      obtain ⟨ea, ec, d0, d1, d2⟩ := hcs a hal
      have hai : (a : Int) < (N : Int) := by have := HN.out; omega
      have ha0 : (0 : Int) ≤ (a : Int) := by omega
      clear hcs
      by_cases hlt : k < s.size
      · have hki : (k : Int) < (s.size : Int) := by omega
        have D2 := hideH d2
        have HEd := hideH (fun v (hv : Below wr.heap.size wr v) => edgeOf_c ea ec (nod t a).es (nod t a).wd s[k] v (HF.out.es a hal) (D2.out.on hv))
        unfold ckP at HEd
        have HG := hideH (gI_next HO.out hlt hg hal)
        clear d2 hg
        generalize eOf (nod t a).es s[k] = nx at *
        go_wp2_with fail
        go_region_held3 (fun v => v.cell? ⟨b, off + a * 2, none⟩ = some (.slice ea (nod t a).es.length ec) ∧ v.cell? ⟨b, off + a * 2 + 1, none⟩ = some (.int .i64 (nod t a).wd)) (first | (exact ⟨d0, d1⟩) | (exact ⟨cell_on (w := wr.drew) d0 hw2, cell_on (w := wr.drew) d1 hw2⟩)) ((go_at_call 22; refine (HEd.out _ (Below.refl _ wr).drew).mono ?_; rintro e w2 ⟨rfl, hw2⟩))
        all_goals
          have H2 := hideH (bthen HW.out (bthen (a := wr.drew) (Below.refl _ wr).drew hw2))
          clear hw2 d0 d1
          go_wp2_with fail
          go_roundw
          case rel => exact ⟨k + 1, by omega, by go_num, by rw [HG.out], H2⟩
          case measure => simp [intOf]; omega
      · have hki : ¬ ((k : Int) < (s.size : Int)) := by omega
        obtain rfl : k = s.size := by omega
        have HE : Hid (findT t s.data.toList = (nod t a).wd) := by
          rw [take_all] at hg
          show _ = _
          unfold findT
          rw [hg]
        clear hg d2
        go_wp2_with fail
        go_ret
        unfold ckP
        exact ⟨ret_int HE.out.symm, HW.out⟩
theorem find_ge {t : List Nd} (ho : okT t) (s : List UInt8) : -1 ≤ findT t s := by
  unfold findT
  cases hg : go t 0 s with
  | none => simp
  | some a =>
    have := ho.2 a (go_lt ho _ 0 a ho.1 hg)
    unfold okN at this
    simp only [Bool.and_eq_true, decide_eq_true_eq] at this
    exact this.1
set_option maxRecDepth 100000 in
set_option maxHeartbeats 4000000 in
theorem TrieLongest_c (ta : Option Addr) (tc : Nat) (t : List Nd) (s : ByteArray) (w : World) (hs : s.size ≤ maxLen) (hf : fitT t) (ho : okT t) (hP : TrL w ta t) :
    Calls Try.prog 18 #[.slice ta t.length tc, .string s] w fun e w' => e = .returned (.tuple #[.int .i64 (longT t s.data.toList).1, .int .i64 (longT t s.data.toList).2]) ∧ Below w.heap.size w w' := by
  have HP := hideH hP
  have HFi := hideH (fun (n : Nat) (hn : n ≤ s.size) v (hv : Below w.heap.size w v) => by
    have := TrieFind_c ta tc t (s.extract 0 n) v (by simp; unfold maxLen at hs ⊢; omega) hf ho (HP.out.on hv)
    rw [show (s.extract 0 n).data.toList = s.data.toList.take n by simp] at this
    exact this)
  unfold ckP at HFi
  have HGe := hideH (fun n => find_ge ho (s.data.toList.take n))
  have HLt : Hid (∀ n : Nat, n ≤ s.size → (∀ m, n < m → m ≤ s.size → findT t (s.data.toList.take m) = -1) → (findT t (s.data.toList.take n) = -1 → n = 0) → longT t s.data.toList = (findT t (s.data.toList.take n), n)) := fun n h1 h3 h4 => by
    unfold longT
    rw [sz_len]
    exact lgT_uniq (f := fun n => findT t (s.data.toList.take n)) h1 h3 h4
  obtain ⟨L, hL⟩ : ∃ L, L = longT t s.data.toList := ⟨_, rfl⟩
  rw [← hL] at HLt ⊢
  clear hL hf ho hP
  unfold maxLen at hs
  go_enter Try.func18, Try.ntmps18
  go_wp2_with fail
  go_loopw [6] (fun x6 v => ∃ k : Nat, k ≤ s.size + 1 ∧ x6 = .int .i64 ((k : Int) - 1) ∧ Hid (∀ m, k ≤ m → m ≤ s.size → findT t (s.data.toList.take m) = -1) ∧ Hid (Below w.heap.size w v)) (fun x6 _ => ((intOf x6) + 1).toNat)
  case atStart => exact ⟨s.size + 1, Nat.le_refl _, by congr 1; omega, fun m h1 h2 => by omega, Below.refl _ _⟩
  case round =>
    obtain ⟨k, hk, rfl, HR, HW⟩ := hrel
    rcases Nat.eq_zero_or_pos k with h0 | h0
    · subst h0
      have HE : Hid (L = (-1, 0)) := by
        show L = _
        rw [HLt.out 0 (Nat.zero_le _) (fun m _ h2 => HR.out m (Nat.zero_le _) h2) (fun _ => rfl), HR.out 0 (Nat.le_refl _) (Nat.zero_le _)]
      go_wp2_with fail
      go_ret2
      exact ⟨by rw [HE.out] <;> rfl, HW.out⟩
    · obtain ⟨n, rfl⟩ : ∃ n, k = n + 1 := ⟨k - 1, by omega⟩
      have hkn : ((n + 1 : Nat) : Int) - 1 = (n : Int) := by omega
      rw [hkn]
      have hn0 : (0 : Int) ≤ (n : Int) := by omega
      have hns : (n : Int) ≤ (s.size : Int) := by omega
      have HF1 := hideH (HFi.out n (by omega))
      have hge := HGe.out n
      have HE1 : Hid (findT t (s.data.toList.take n) ≠ -1 → L = (findT t (s.data.toList.take n), n)) := fun h => HLt.out n (by omega) (fun m h1 h2 => HR.out m (by omega) h2) (fun e => absurd e h)
      have HR1 : Hid (findT t (s.data.toList.take n) = -1 → ∀ m, n ≤ m → m ≤ s.size → findT t (s.data.toList.take m) = -1) := fun h m h1 h2 => by
        by_cases e : m = n
        · rw [e]; exact h
        · exact HR.out m (by omega) h2
      generalize findT t (s.data.toList.take n) = fv at *
      by_cases hq : 0 ≤ fv
      · have HE := hideH (HE1.out (by omega))
        go_wp2_with (go_at_call 17; refine (HF1.out _ HW.out).mono ?_; rintro e w2 ⟨rfl, hw2⟩)
        go_ret2
        exact ⟨by rw [HE.out] <;> rfl, bthen HW.out hw2⟩
      · have HR2 := hideH (HR1.out (by omega))
        go_wp2_with (go_at_call 17; refine (HF1.out _ HW.out).mono ?_; rintro e w2 ⟨rfl, hw2⟩)
        have H2 := hideH (bthen HW.out hw2)
        clear hw2
        go_roundw
        case rel => exact ⟨n, by omega, rfl, HR2, H2⟩
        case measure => simp [intOf]
end Go.Proofs.Ythkdjklpegmnnaa.Tri
