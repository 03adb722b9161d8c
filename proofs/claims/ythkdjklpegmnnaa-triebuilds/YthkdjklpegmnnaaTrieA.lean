/- Tries in memory; the contracts of package trie: place. -/
import Derived.Test.YthkdjklpegmnnaaProg
import Derived.Test.YthkdjklpegmnnaaTrieN
import Derived.WalkKit
import Derived.WalkSpells
import Derived.WalkSmall
import Derived.Deep.QuietTactic
import Derived.BigQuiet
import Derived.OwnWalk
namespace Go.Proofs.Ythkdjklpegmnnaa.Tri
open Go Go.RowKit
set_option linter.unusedVariables false

theorem hideH {p : Prop} (h : p) : Hid p := h
theorem bthen {w a b : World} (h : Below w.heap.size w a) (k : Below a.heap.size a b) : Below w.heap.size w b := h.trans (k.mono h.size)
theorem cell_lt {w : World} {b o : Nat} {v : Value} (h : w.cell? ⟨b, o, none⟩ = some v) : b < w.heap.size := by
  unfold World.cell? at h
  simp only at h
  rcases Nat.lt_or_ge b w.heap.size with h1 | h1
  · exact h1
  · rw [Array.getElem?_eq_none h1] at h; cases h
theorem cell_on {w w' : World} {b o : Nat} {x : Value} (h : w.cell? ⟨b, o, none⟩ = some x) (hb : Below w.heap.size w w') : w'.cell? ⟨b, o, none⟩ = some x := by
  rw [hb.cell (p := ⟨b, o, none⟩) (cell_lt h)]; exact h
theorem heap_on {w w' : World} {b : Nat} {o : Obj} (h : w.heap[b]? = some o) (hb : Below w.heap.size w w') : w'.heap[b]? = some o := (hb.block b (Array.getElem?_eq_some_iff.1 h).1).trans h
theorem beq_cases (a b : Int) : (a == b) = true ∧ a = b ∨ (a == b) = false ∧ a ≠ b := by
  by_cases h : a = b
  · exact .inl ⟨by simp [h], h⟩
  · exact .inr ⟨by simp [h], h⟩
theorem ret_bool {a b : Bool} (h : a = b) : Ending.returned (.bool a) = .returned (.bool b) := by rw [h]
theorem ret_int {k : IntKind} {a b : Int} (h : a = b) : Ending.returned (.int k a) = .returned (.int k b) := by rw [h]

/-- an edge of a list, by its place -/
def eC (l : List (UInt8 × Int)) (j : Nat) : UInt8 := (l[j]?.getD (0, 0)).1
def eT (l : List (UInt8 × Int)) (j : Nat) : Int := (l[j]?.getD (0, 0)).2
theorem eC_at {l : List (UInt8 × Int)} {j : Nat} (h : j < l.length) : l[j] = (eC l j, eT l j) := by
  unfold eC eT; rw [List.getElem?_eq_getElem h]; rfl
/-- two cells each, in a row -/
def EdL (w : World) (a : Option Addr) (l : List (UInt8 × Int)) : Prop := l.length = 0 ∨ ∃ b off, a = some ⟨b, off, none⟩ ∧ ∀ j, j < l.length → w.cell? ⟨b, off + j * 2, none⟩ = some (.int .u8 ((eC l j).toNat : Int)) ∧ w.cell? ⟨b, off + j * 2 + 1, none⟩ = some (.int .i64 (eT l j))
theorem EdL.on {w w' : World} {a : Option Addr} {l : List (UInt8 × Int)} (p : EdL w a l) (hb : Below w.heap.size w w') : EdL w' a l := by
  rcases p with p | ⟨b, off, h1, h2⟩
  · exact .inl p
  · exact .inr ⟨b, off, h1, fun j hj => ⟨cell_on (h2 j hj).1 hb, cell_on (h2 j hj).2 hb⟩⟩

theorem isNaN_c (c : Int) (w : World) : Calls Try.prog 35 #[.int .u8 c] w fun e w' => e = .returned (.bool false) ∧ w' = w := by
  go_enter Try.func35, Try.ntmps35
  go_wp2
  go_ret
  exact ⟨ret_bool (by simp), rfl⟩
/-- how two bytes stand -/
def cmpB (a b : UInt8) : Int := if a < b then -1 else if b < a then 1 else 0
theorem cmp_c (a b : UInt8) (w : World) : Calls Try.prog 32 #[.int .u8 (a.toNat : Int), .int .u8 (b.toNat : Int)] w fun e w' => e = .returned (.int .i64 (cmpB a b)) ∧ w' = w := by
  have ha := a.toNat_lt
  have hb := b.toNat_lt
  by_cases h : a < b
  · have h' : (a.toNat : Int) < (b.toNat : Int) := by have := UInt8.lt_iff_toNat_lt.1 h; omega
    have HE : Hid (cmpB a b = -1) := by show _ = _; unfold cmpB; rw [if_pos h]
    clear h
    go_enter Try.func32, Try.ntmps32
    go_wp2_with (go_at_call 35; refine (isNaN_c _ _).mono ?_; rintro e w' ⟨rfl, rfl⟩)
    go_ret
    exact ⟨ret_int HE.out.symm, rfl⟩
  · by_cases k : b < a
    · have h' : ¬ (a.toNat : Int) < (b.toNat : Int) := by have := mt UInt8.lt_iff_toNat_lt.2 h; omega
      have k' : (b.toNat : Int) < (a.toNat : Int) := by have := UInt8.lt_iff_toNat_lt.1 k; omega
      have HE : Hid (cmpB a b = 1) := by show _ = _; unfold cmpB; rw [if_neg h, if_pos k]
      clear h k
      go_enter Try.func32, Try.ntmps32
      go_wp2_with (go_at_call 35; refine (isNaN_c _ _).mono ?_; rintro e w' ⟨rfl, rfl⟩)
      go_ret
      exact ⟨ret_int HE.out.symm, rfl⟩
    · have h' : ¬ (a.toNat : Int) < (b.toNat : Int) := by have := mt UInt8.lt_iff_toNat_lt.2 h; omega
      have k' : ¬ (b.toNat : Int) < (a.toNat : Int) := by have := mt UInt8.lt_iff_toNat_lt.2 k; omega
      have HE : Hid (cmpB a b = 0) := by show _ = _; unfold cmpB; rw [if_neg h, if_neg k]
      clear h k
      go_enter Try.func32, Try.ntmps32
      go_wp2_with (go_at_call 35; refine (isNaN_c _ _).mono ?_; rintro e w' ⟨rfl, rfl⟩)
      go_ret
      exact ⟨ret_int HE.out.symm, rfl⟩
theorem place1_c (a b : UInt8) (k : Int) (w : World) : Calls Try.prog 31 #[.agg #[.int .u8 (a.toNat : Int), .int .i64 k], .int .u8 (b.toNat : Int)] w fun e w' => e = .returned (.int .i64 (cmpB a b)) ∧ Below w.heap.size w w' := by
  have hb := hideH ((Below.refl _ w).alloc (Nat.le_refl _) (.cells #[.int .u8 (a.toNat : Int), .int .i64 k] 52))
  have HC := hideH (fun v => cmp_c a b v)
  go_enter Try.func31, Try.ntmps31
  go_wp2_with (go_at_call 32; refine (HC.out _).mono ?_; rintro e w2 ⟨rfl, rfl⟩)
  go_ret
  exact ⟨rfl, hb.out⟩

/-- edges that rise are few -/
theorem rises_low : ∀ (l : List (UInt8 × Int)) (m : Nat), Rises l → (∀ e ∈ l, m ≤ e.1.toNat) → l.length + m ≤ 256 ∨ l = []
  | [], m, _, _ => .inr rfl
  | a :: r, m, h, hm => by
    obtain ⟨h1, h2⟩ := List.pairwise_cons.1 h
    left
    have ha := hm a (by simp)
    have ha2 := a.1.toNat_lt
    rcases rises_low r (a.1.toNat + 1) h2 (fun e he => by have := UInt8.lt_iff_toNat_lt.1 (h1 e he); omega) with h3 | h3
    · simp only [List.length_cons]; omega
    · subst h3; simp only [List.length_cons, List.length_nil]; omega
theorem rises_len {l : List (UInt8 × Int)} (h : Rises l) : l.length ≤ 256 := by
  rcases rises_low l 0 h (fun _ _ => Nat.zero_le _) with h1 | h1
  · omega
  · subst h1; simp
theorem rises_at {l : List (UInt8 × Int)} (h : Rises l) {i j : Nat} (hij : i < j) (hj : j < l.length) : eC l i < eC l j := by
  have := List.pairwise_iff_getElem.1 h i j (by omega) hj hij
  rw [eC_at, eC_at hj] at this
  exact this
theorem cnt_at {l : List (UInt8 × Int)} {c : UInt8} {i : Nat} (hi : i ≤ l.length) (h1 : ∀ t, t < i → eC l t < c) (h2 : ∀ t, i ≤ t → t < l.length → ¬ eC l t < c) : cnt l c = i := by
  unfold cnt
  rw [← List.take_append_drop i l, List.countP_append]
  have e1 : (l.take i).countP (fun e => decide (e.1 < c)) = i := by
    rw [List.countP_eq_length.2 (fun e he => ?_)]
    · simp; omega
    · obtain ⟨t, ht, rfl⟩ := List.getElem_of_mem he
      rw [List.length_take] at ht
      rw [List.getElem_take, eC_at (by omega)]
      exact decide_eq_true (h1 t (by omega))
  have e2 : (l.drop i).countP (fun e => decide (e.1 < c)) = 0 := by
    rw [List.countP_eq_zero]
    intro e he
    obtain ⟨t, ht, rfl⟩ := List.getElem_of_mem he
    rw [List.length_drop] at ht
    rw [List.getElem_drop, eC_at (by omega)]
    simpa using h2 (i + t) (by omega) (by omega)
  rw [e1, e2]; rfl
/-- what place answers -/
def plP (l : List (UInt8 × Int)) (c : UInt8) (w : World) (e : Ending) (w' : World) : Prop := e = .returned (.tuple #[.int .i64 (cnt l c : Int), .bool (edg l c).isSome]) ∧ Below w.heap.size w w'
theorem edg_yes {l : List (UInt8 × Int)} (h : Rises l) {c : UInt8} {i : Nat} (hi : i < l.length) (hc : eC l i = c) : edg l c = some (eT l i) := by
  rw [edg_mem h, ← hc, ← eC_at hi]; exact List.getElem_mem hi
theorem edg_no {l : List (UInt8 × Int)} {c : UInt8} (h : ∀ t, t < l.length → eC l t ≠ c) : edg l c = none := by
  rw [edg_none]
  intro e he
  obtain ⟨t, ht, rfl⟩ := List.getElem_of_mem he
  rw [eC_at ht]
  exact h t ht
theorem cmpB_lt {a b : UInt8} : cmpB a b < 0 ↔ a < b := by
  unfold cmpB
  by_cases h : a < b
  · rw [if_pos h]; simp [h]
  · rw [if_neg h]
    by_cases k : b < a
    · rw [if_pos k]; simp [h]
    · rw [if_neg k]; simp [h]
theorem cmpB_eq {a b : UInt8} : cmpB a b = 0 ↔ a = b := by
  unfold cmpB
  by_cases h : a < b
  · rw [if_pos h]; constructor
    · intro e; cases e
    · intro e; subst e; exact absurd h (UInt8.lt_irrefl _)
  · rw [if_neg h]
    by_cases k : b < a
    · rw [if_pos k]; constructor
      · intro e; cases e
      · intro e; subst e; exact absurd k (UInt8.lt_irrefl _)
    · rw [if_neg k]; constructor
      · intro _
        rw [UInt8.lt_iff_toNat_lt] at h k
        exact UInt8.toNat_inj.1 (by omega)
      · intro _; rfl
set_option maxHeartbeats 8000000 in
theorem Esearch_c (a : Option Addr) (cap : Nat) (l : List (UInt8 × Int)) (c : UInt8) (w : World) (hP : EdL w a l) (hr : Rises l) :
    Calls Try.prog 30 #[.slice a l.length cap, .int .u8 (c.toNat : Int), .func (.func 31) #[] #[]] w fun e w' => plP l c w e w' := by
  have HP := hideH hP
  have HR := hideH hr
  have hlen := rises_len hr
  clear hP hr
  have HC := hideH (fun j v => place1_c (eC l j) c (eT l j) v)
  obtain ⟨n, hn⟩ : ∃ n, n = l.length := ⟨_, rfl⟩
  have HN := hideH hn
  rw [← hn] at hlen ⊢
  clear hn
  go_enter Try.func30, Try.ntmps30
  go_wp2_with fail
  go_loopw [9, 10] (fun x9 x10 wr => ∃ i j : Nat, i ≤ j ∧ j ≤ n ∧ x9 = .int .i64 i ∧ x10 = .int .i64 j ∧ Hid (∀ t, t < i → eC l t < c) ∧ Hid (∀ t, j ≤ t → t < n → ¬ eC l t < c) ∧ Hid (Below w.heap.size w wr)) (fun x9 x10 _ => (intOf x10).toNat - (intOf x9).toNat)
  case atStart => exact ⟨0, n, Nat.zero_le _, Nat.le_refl _, rfl, rfl, fun t ht => by omega, fun t h1 h2 => by omega, Below.refl _ _⟩
  case round =>
    obtain ⟨i, j, hij, hjn, rfl, rfl, HA, HB, HW⟩ := hrel
    by_cases hlt : i < j
    · obtain ⟨h, hh⟩ : ∃ h : Nat, h = (i + j) / 2 := ⟨_, rfl⟩
      have hm1 : i ≤ h := by omega
      have hm2 : h < j := by omega
      have hmid : ((i : Int) + (j : Int)) / 2 = (h : Int) := by omega
      clear hh
      rcases HP.out.on HW.out with h0 | ⟨b, off, hsa, hcs⟩
      · have := HN.out; omega
      obtain ⟨d0, d1⟩ := hcs h (by have := HN.out; omega)
      clear hcs
      have hk0 : decide ((h : Int) < 0) = false := by simp
      have hkn : decide (n ≤ h) = false := by simp; omega
      have hlt2 : (h : Int) < (n : Int) := by omega
      obtain ⟨cz, hcz⟩ : ∃ cz, cz = cmpB (eC l h) c := ⟨_, rfl⟩
      have HC1 := hideH (HC.out h)
      rw [← hcz] at HC1
      have HCZ := hideH hcz
      clear hcz
      by_cases hq : cz < 0
      · have HA2 : Hid (∀ t, t < h + 1 → eC l t < c) := fun t ht => by
          have e : eC l h < c := cmpB_lt.1 (by rw [← HCZ.out]; exact hq)
          rcases Nat.lt_or_ge t h with h1 | h1
          · exact UInt8.lt_trans (rises_at HR.out h1 (by have := HN.out; omega)) e
          · obtain rfl : t = h := by omega
            exact e
        have hqd : decide (cz < 0) = true := decide_eq_true hq
        go_wp2_with (go_at_call 31; refine (HC1.out _).mono ?_; rintro e w1 ⟨rfl, hw1⟩)
        have H1 := hideH (bthen HW.out hw1)
        clear hw1
        try simp only [← hsa]
        go_roundw
        case rel => exact ⟨h + 1, j, by omega, hjn, by go_num, rfl, HA2, HB, H1⟩
        case measure => simp [intOf]; omega
      · have hqd : decide (cz < 0) = false := decide_eq_false hq
        go_wp2_with (go_at_call 31; refine (HC1.out _).mono ?_; rintro e w1 ⟨rfl, hw1⟩)
        have HB2 : Hid (∀ t, h ≤ t → t < n → ¬ eC l t < c) := fun t h1 h2 => by
          have e : ¬ eC l h < c := fun e => by have := cmpB_lt.2 e; rw [← HCZ.out] at this; omega
          rcases Nat.lt_or_ge h t with h3 | h3
          · intro k
            exact e (UInt8.lt_trans (rises_at HR.out h3 (by have := HN.out; omega)) k)
          · obtain rfl : t = h := by omega
            exact e
        have H1 := hideH (bthen HW.out hw1)
        clear hw1
        try simp only [← hsa]
        go_roundw
        case rel => exact ⟨i, h, by omega, by omega, rfl, rfl, HA, HB2, H1⟩
        case measure => simp [intOf]; omega
    · obtain rfl : i = j := by omega
      have HCnt : Hid (cnt l c = i) := cnt_at (by have := HN.out; omega) HA.out (fun t h1 h2 => HB.out t h1 (by have := HN.out; omega))
      by_cases hin : i < n
      · rcases HP.out.on HW.out with h0 | ⟨b, off, hsa, hcs⟩
        · have := HN.out; omega
        obtain ⟨d0, d1⟩ := hcs i (by have := HN.out; omega)
        clear hcs
        have hk0 : decide ((i : Int) < 0) = false := by simp
        have hkn : decide (n ≤ i) = false := by simp; omega
        have hlt2 : (i : Int) < (n : Int) := by omega
        obtain ⟨cz, hcz⟩ : ∃ cz, cz = cmpB (eC l i) c := ⟨_, rfl⟩
        have HC1 := hideH (HC.out i)
        rw [← hcz] at HC1
        have HCZ := hideH hcz
        clear hcz
        rcases beq_cases cz 0 with ⟨q1, q2⟩ | ⟨q1, q2⟩
        · have HQ : Hid (edg l c = some (eT l i)) := edg_yes HR.out (by have := HN.out; omega) (cmpB_eq.1 (by rw [← HCZ.out]; exact q2))
          clear q2
          go_wp2_with (go_at_call 31; refine (HC1.out _).mono ?_; rintro e w1 ⟨rfl, hw1⟩)
          go_ret2
          unfold plP
          exact ⟨by rw [HCnt.out, HQ.out]; rfl, bthen HW.out hw1⟩
        · have HQ : Hid (edg l c = none) := edg_no fun t ht e => by
            rcases Nat.lt_trichotomy t i with h3 | h3 | h3
            · have := HA.out t h3; rw [e] at this; exact absurd this (UInt8.lt_irrefl _)
            · subst h3; exact q2 (by rw [HCZ.out]; exact cmpB_eq.2 e)
            · have h5 := rises_at HR.out h3 ht
              rw [e] at h5
              exact HB.out i (Nat.le_refl _) hin h5
          clear q2
          go_wp2_with (go_at_call 31; refine (HC1.out _).mono ?_; rintro e w1 ⟨rfl, hw1⟩)
          go_ret2
          unfold plP
          exact ⟨by rw [HCnt.out, HQ.out]; rfl, bthen HW.out hw1⟩
      · have hin2 : ¬ ((i : Int) < (n : Int)) := by omega
        have HQ : Hid (edg l c = none) := edg_no fun t ht e => by
          have := HA.out t (by have := HN.out; omega)
          rw [e] at this; exact absurd this (UInt8.lt_irrefl _)
        go_wp2_with fail
        go_ret2
        unfold plP
        exact ⟨by rw [HCnt.out, HQ.out]; rfl, HW.out⟩
theorem place_c (a : Option Addr) (cap : Nat) (l : List (UInt8 × Int)) (c : UInt8) (w : World) (hP : EdL w a l) (hr : Rises l) :
    Calls Try.prog 27 #[.slice a l.length cap, .int .u8 (c.toNat : Int)] w fun e w' => plP l c w e w' := by
  have HC := hideH (Esearch_c a cap l c w hP hr)
  have hlen := rises_len hr
  clear hP hr
  unfold plP at HC ⊢
  obtain ⟨B, hB⟩ : ∃ B, B = (edg l c).isSome := ⟨_, rfl⟩
  obtain ⟨C, hC⟩ : ∃ C, C = (cnt l c : Int) := ⟨_, rfl⟩
  rw [← hB, ← hC] at HC ⊢
  clear hB hC
  have hmf : ∀ (fn : Fn) (first cap : Array Value) (w : World), (Instr.makeFunc fn first cap).run Try.prog w = .ok (.func fn first cap) w := fun _ _ _ _ => rfl
  go_enter Try.func27, Try.ntmps27
  go_wp2_with fail
  refine HC.out.mono ?_
  rintro e w1 ⟨rfl, hw1⟩
  have HW := hideH hw1
  clear hw1 HC
  go_wp2_with fail
  go_ret2
  exact ⟨rfl, HW.out⟩
end Go.Proofs.Ythkdjklpegmnnaa.Tri
