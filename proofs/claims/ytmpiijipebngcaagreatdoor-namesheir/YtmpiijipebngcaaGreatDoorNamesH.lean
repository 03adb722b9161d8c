/- A world with one book more, that has no texts of its own (plain). -/
import Derived.Test.YtmpiijipebngcaaGreatDoorNamesS
namespace Go.Proofs.YtmpiijipebngcaaGreatDoor
open Go Go.RowKit Go.Maps
set_option linter.unusedVariables false

abbrev heirB : ByteArray := ⟨#[104, 101, 105, 114]⟩
abbrev heirK (k : Nat) : Bk := ⟨heirB, k, none, 0, 0, fun _ => ⟨#[]⟩, fun _ => ⟨#[]⟩⟩
def hbs (bs : Nat → Bk) (n k : Nat) (j : Nat) : Bk := if j < n then bs j else heirK k
theorem hbs_lt {bs : Nat → Bk} {n k j : Nat} (h : j < n) : hbs bs n k j = bs j := if_pos h
theorem hbs_eq {bs : Nat → Bk} {n k : Nat} : hbs bs n k n = heirK k := if_neg (Nat.lt_irrefl _)
abbrev heb (X : Wd) (k : Nat) (a : Option Addr) (c : Nat) : Wd := ⟨X.D, X.ua, X.un, X.uc, X.us, a, X.bn + 1, c, hbs X.bs X.bn k⟩
set_option maxRecDepth 100000 in
theorem heir_nam : nameB heirB = true := by kernel_rfl
theorem lt_succ_cases {j n : Nat} (h : j < n + 1) : j < n ∨ j = n := by omega
theorem heir_chk {bs : Nat → Bk} {n k : Nat} (h : bchk n bs = 0) (hn : n < 4) (hk : k < n) (hh : ∀ j, j < n → (bs j).lc.data.toList ≠ heirB.data.toList) : bchk (n + 1) (hbs bs n k) = 0 := by
  have hp := bchk_parts h
  have hm := bchk_nam h
  have h0 := h
  unfold bchk at h0
  have c1 : n ≤ 4 ∧ ∀ j, j < n → fewB (bs j) = true := by
    split at h0
    · rename_i q; exact q
    · cases h0
  have c2 : ∀ j, j < n → namB (bs j) = true := by
    rw [if_pos c1] at h0
    split at h0
    · rename_i q; exact q
    · cases h0
  have c3 : dist (fun j => (bs j).lc) n ∧ ∀ j, j < n → rsB (bs j) = true := by
    rw [if_pos c1, if_pos c2] at h0
    split at h0
    · rename_i q; exact q
    · cases h0
  unfold bchk
  rw [if_pos, if_pos, if_pos, if_pos]
  · unfold paB
    rw [List.all_eq_true]
    intro j hj
    have hj := List.mem_range.1 hj
    rw [decide_eq_true_iff]
    rcases lt_succ_cases hj with h1 | rfl
    · rw [hbs_lt h1]; exact hp.2.2.1 j h1
    · rw [hbs_eq]; show -1 ≤ (k : Int) ∧ (k : Int) < _; omega
  · refine ⟨fun i hi j hj => ?_, fun j hj => ?_⟩
    · rcases lt_succ_cases hi with h1 | rfl
      · have := c3.1 i h1 j hj
        simp only [hbs_lt h1, hbs_lt (Nat.lt_trans hj h1)]
        exact this
      · simp only [hbs_lt hj, hbs_eq]
        exact fun e => hh j hj e.symm
    · rcases lt_succ_cases hj with h1 | rfl
      · rw [hbs_lt h1]; exact c3.2 j h1
      · rw [hbs_eq]; unfold rsB; rw [decide_eq_true_iff]; intro i hi; exact absurd hi (Nat.not_lt_zero _)
  · intro j hj
    rcases lt_succ_cases hj with h1 | rfl
    · rw [hbs_lt h1]; exact c2 j h1
    · rw [hbs_eq]; unfold namB; rw [heir_nam, Bool.true_and, decide_eq_true_iff]; intro i hi; exact absurd hi (Nat.not_lt_zero _)
  · refine ⟨hn, fun j hj => ?_⟩
    rcases lt_succ_cases hj with h1 | rfl
    · rw [hbs_lt h1]; exact c1.2 j h1
    · rw [hbs_eq]; rfl
theorem rng_find {p : Nat → Bool} {n j : Nat} (hj : j < n) (h1 : p j = true) (h2 : ∀ i, i < j → p i = false) : (List.range n).find? p = some j := find_rng hj h1 h2
theorem heir_bix {bs : Nat → Bk} {n k : Nat} (hh : ∀ j, j < n → (bs j).lc.data.toList ≠ heirB.data.toList) : bixI (hbs bs n k) (n + 1) heirB = n := by
  have : bix (hbs bs n k) (n + 1) heirB = some n := by
    refine rng_find (Nat.lt_succ_self n) (by rw [hbs_eq]; simp) fun i hi => ?_
    rw [hbs_lt hi, tl, tl]
    exact beq_eq_false_iff_ne.2 (hh i hi)
  unfold bixI
  rw [this]
theorem own_bix {bs : Nat → Bk} {n k : Nat} (hd : dist (fun j => (bs j).lc) n) (hk : k < n) : bixI bs n (bs k).lc = k := by
  have : bix bs n (bs k).lc = some k := by
    refine rng_find hk (by simp) fun i hi => ?_
    rw [tl, tl]
    exact beq_eq_false_iff_ne.2 fun e => hd k hk i hi e.symm
  unfold bixI
  rw [this]
theorem txF_same {bs : Nat → Bk} {key : ByteArray} {n k : Nat} (hpa : ∀ j, j < n → -1 ≤ (bs j).pa ∧ (bs j).pa < j) : ∀ (f : Nat) (p : Int), -1 ≤ p → p < n → txF (hbs bs n k) key f p = txF bs key f p
  | 0, p, h0, h1 => rfl
  | f + 1, p, h0, h1 => by
    unfold txF
    by_cases hp : p = -1
    · rw [if_pos hp, if_pos hp]
    · rw [if_neg hp, if_neg hp, hbs_lt (show p.toNat < n by omega)]
      cases kix (bs p.toNat) key with
      | some i => rfl
      | none =>
        have := hpa p.toNat (by omega)
        exact txF_same hpa f _ this.1 (by omega)
theorem heir_txt {bs : Nat → Bk} {key : ByteArray} {n k : Nat} (hpa : ∀ j, j < n → -1 ≤ (bs j).pa ∧ (bs j).pa < j) (hk : k < n) : txt (hbs bs n k) key (n + 1) n = txt bs key n k := by
  unfold txt
  conv => lhs; unfold txF
  rw [if_neg (by omega)]
  have e : ((n : Int)).toNat = n := rfl
  rw [e, hbs_eq]
  have : kix (heirK k) key = none := rfl
  rw [this]
  show txF (hbs bs n k) key (n + 2) (k : Int) = _
  rw [txF_same hpa _ _ (by omega) (by omega)]
theorem heir_bt {bs : Nat → Bk} {n k : Nat} (h : bchk n bs = 0) (hn : n < 4) (hk : k < n) (hh : ∀ j, j < n → (bs j).lc.data.toList ≠ heirB.data.toList) (key : ByteArray) : btT (hbs bs n k) (n + 1) heirB key = btT bs n (bs k).lc key ∧ btE (hbs bs n k) (n + 1) heirB = btE bs n (bs k).lc := by
  have h2 := heir_chk h hn hk hh
  have hp := bchk_parts h
  unfold btT btE
  rw [if_pos h, if_pos h, if_pos h2, if_pos h2, heir_bix hh, own_bix hp.2.2.2 hk, if_neg (by omega), if_neg (by omega), if_neg (by omega), if_neg (by omega), heir_txt hp.2.2.1 hk]
  exact ⟨rfl, rfl⟩
theorem heir_nm {X : Wd} {k : Nat} (h : nchk X = 0) (hn : X.bn < 4) (hk : k < X.bn) (hh : ∀ j, j < X.bn → (X.bs j).lc.data.toList ≠ heirB.data.toList) (a : Option Addr) (c : Nat) (zn : ByteArray) (t p : Int) :
    nmR (heb X k a c) heirB zn t p = nmR X (X.bs k).lc zn t p ∧ nmE (heb X k a c) heirB zn t p = nmE X (X.bs k).lc zn t p := by
  obtain ⟨h1, h2⟩ := nchk_ok h
  have hc : nchk (heb X k a c) = 0 := by
    unfold nchk
    show (if uchk X.D X.un X.us = 0 then bchk (X.bn + 1) (hbs X.bs X.bn k) else _) = 0
    rw [if_pos h1]
    exact heir_chk h2 hn hk hh
  have hb := heir_bt h2 hn hk hh
  have hE : nmE (heb X k a c) heirB zn t p = nmE X (X.bs k).lc zn t p := by
    unfold nmE
    rw [hc, h]
    show (if (0 : Int) = 0 then (if 1 ≤ p ∧ p ≤ 4 then (if btE (hbs X.bs X.bn k) (X.bn + 1) heirB = 0 ∧ zonE X.D zn = 0 then _ else _) else _) else _) = _
    rw [(hb ⟨#[]⟩).2]
  refine ⟨?_, hE⟩
  unfold nmR
  rw [hE]
  split
  · unfold nmP
    have e1 : nmName (heb X k a c) heirB zn t = nmName X (X.bs k).lc zn t := by
      unfold nmName
      show (if (!(btT (hbs X.bs X.bn k) (X.bn + 1) heirB (nmKey X zn t)).toList.isEmpty) = true then btT (hbs X.bs X.bn k) (X.bn + 1) heirB (nmKey X zn t) else _) = _
      rw [(hb _).1]
    have e2 : nmCity (heb X k a c) heirB zn = nmCity X (X.bs k).lc zn := by
      unfold nmCity
      show (if (!(btT (hbs X.bs X.bn k) (X.bn + 1) heirB (nmId X.D zn)).toList.isEmpty) = true then btT (hbs X.bs X.bn k) (X.bn + 1) heirB (nmId X.D zn) else _) = _
      rw [(hb _).1]
    rw [e1, e2]
  · rfl
end Go.Proofs.YtmpiijipebngcaaGreatDoor
