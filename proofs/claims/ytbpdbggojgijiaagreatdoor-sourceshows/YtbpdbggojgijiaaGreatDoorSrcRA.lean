/- The document's own: digits of a number; numbers, a blank ahead of each. -/
import Derived.Lib.ItoaNum
import Derived.Lib.ItoaLen
import Derived.Lib.ItoaMem
import Derived.Laws.IdiomStrings
import Derived.Test.YtbpdbggojgijiaaGreatDoorSourceAAll
namespace Go.Proofs.YtbpdbggojgijiaaGreatDoor.Src
open Go Go.RowKit
set_option linter.unusedVariables false
set_option linter.unusedSimpArgs false

theorem hideR {p : Prop} (h : p) : Hid p := h
theorem cell_at {w w' : World} {p : Addr} {v : Value} (hb : Below w.heap.size w w') (h : w.cell? p = some v) : w'.cell? p = some v := by
  refine (hb.cell (p := p) ?_).trans h
  unfold World.cell? at h
  split at h
  · rename_i he
    exact (Array.getElem?_eq_some_iff.1 he).1
  · cases h
theorem ba_app (a b : List UInt8) : (⟨a.toArray⟩ : ByteArray) ++ ⟨b.toArray⟩ = ⟨(a ++ b).toArray⟩ := by
  apply ByteArray.ext
  rw [ByteArray.data_append]
  simp
theorem digit_c (w : World) (u : Nat) : Sem.run Tryz.prog (convert 40 9 (.slice (some ⟨w.heap.size, 0, none⟩) 1 1)) (w.alloc (.cells #[.int .u8 (48 + (u : Int) % 10)] 5)) = .ok (.string ⟨#[UInt8.ofNat (48 + u % 10)]⟩) (w.alloc (.cells #[.int .u8 (48 + (u : Int) % 10)] 5)) := by
  refine run_convert_bytes_back (P := Tryz.prog) (w.alloc (.cells #[.int .u8 (48 + (u : Int) % 10)] 5)) 40 9 5 ⟨w.heap.size, 0, none⟩ 1 [UInt8.ofNat (48 + u % 10)] Tryz.underlying40 Tryz.underlying5 Tryz.underlying9 (fun j hj => ?_)
  have hj0 : j = 0 := by simpa using hj
  subst hj0
  have e : (UInt8.ofNat (48 + u % 10)).toNat = 48 + u % 10 := by
    rw [UInt8.toNat_ofNat']
    exact Nat.mod_eq_of_lt (by omega)
  simp [Addr.add, e]
  omega
theorem dec_len {u : Nat} (h : u < 9223372036854775808) : (Lib.decDigits u).length ≤ 21 := by
  have := Lib.itoa_length_le (u : Int) (by omega) (by omega)
  rw [Lib.itoa_nonneg] at this
  exact this
set_option maxHeartbeats 4000000 in
set_option maxRecDepth 100000 in
theorem digits_nn (u : Nat) : u < 9223372036854775808 → ∀ w : World, Calls Tryz.prog 44 #[.int .i64 (u : Int)] w fun e w' => e = .returned (.string ⟨(Lib.decDigits u).toArray⟩) ∧ Below w.heap.size w w' := by
  induction u using Nat.strongRecOn with
  | _ u ih =>
    intro hu w
    have n0 : ¬ ((u : Int) < 0) := by omega
    have kc := digit_c w u
    obtain ⟨c, hc⟩ : ∃ c : UInt8, c = UInt8.ofNat (48 + u % 10) := ⟨_, rfl⟩
    rw [← hc] at kc
    have ba : Hid (Below w.heap.size w (w.alloc (.cells #[.int .u8 (48 + (u : Int) % 10)] 5))) := (Below.refl _ w).alloc (Nat.le_refl _) (.cells #[.int .u8 (48 + (u : Int) % 10)] 5)
    by_cases h : u < 10
    · have h1 : (u : Int) < 10 := by omega
      have hv : (⟨(Lib.decDigits u).toArray⟩ : ByteArray) = ⟨#[c]⟩ := by
        rw [Lib.decDigits, dif_pos h, hc, Nat.mod_eq_of_lt h]
      rw [hv]
      clear ih hv hc
      go_enter Tryz.func44, Tryz.ntmps44
      go_wp2_with fail
      go_ret
      exact ⟨rfl, ba.out⟩
    · have h1 : ¬ (u : Int) < 10 := by omega
      have hl := dec_len (u := u / 10) (by omega)
      have HI := hideR (ih (u / 10) (by omega) (by omega) (w.alloc (.cells #[.int .u8 (48 + (u : Int) % 10)] 5)))
      obtain ⟨L, hL⟩ : ∃ L, L = Lib.decDigits (u / 10) := ⟨_, rfl⟩
      have hv : (⟨(Lib.decDigits u).toArray⟩ : ByteArray) = ⟨(L ++ [c]).toArray⟩ := by
        rw [Lib.decDigits, dif_neg h, hc, ← hL]
      rw [← hL] at HI hl
      rw [hv]
      clear ih hv hc hL
      have hq : ((u / 10 : Nat) : Int) = (u : Int) / 10 := by omega
      rw [hq] at HI
      have hbig : (9223372036854775807 < L.length + 1) = False := by simp; omega
      go_enter Tryz.func44, Tryz.ntmps44
      go_wp2_with (go_at_call 44; refine HI.out.mono ?_; rintro e w1 ⟨rfl, b1⟩)
      go_ret
      exact ⟨rfl, ba.out.trans (b1.mono ba.out.size)⟩
/-- digits of whatever number Go bears, but the least one -/
theorem digits_c (n : Int) (h1 : -9223372036854775808 < n) (h2 : n ≤ 9223372036854775807) (w : World) : Calls Tryz.prog 44 #[.int .i64 n] w fun e w' => e = .returned (.string ⟨(Lib.itoa n).toArray⟩) ∧ Below w.heap.size w w' := by
  by_cases h : n < 0
  · obtain ⟨u, rfl⟩ : ∃ u : Nat, n = -(u : Int) := ⟨n.natAbs, by omega⟩
    have hl := dec_len (u := u) (by omega)
    have HI := hideR (digits_nn u (by omega) w)
    rw [Lib.itoa_neg u (by omega)]
    obtain ⟨L, hL⟩ : ∃ L, L = Lib.decDigits u := ⟨_, rfl⟩
    rw [← hL] at HI hl ⊢
    have hbig : (9223372036854775807 < 1 + L.length) = False := by simp; omega
    have hbig2 : (9223372036854775807 < L.length + 1) = False := by simp; omega
    clear hL
    go_enter Tryz.func44, Tryz.ntmps44
    go_wp2_with (go_at_call 44; refine HI.out.mono ?_; rintro e w1 ⟨rfl, b1⟩)
    go_ret
    exact ⟨rfl, b1⟩
  · obtain ⟨u, rfl⟩ : ∃ u : Nat, n = (u : Int) := ⟨n.toNat, by omega⟩
    rw [Lib.itoa_nonneg]
    exact digits_nn u (by omega) w
/-- numbers, a blank ahead of each -/
def numsB (l : List Int) : List UInt8 := l.flatMap fun n => 32 :: Lib.itoa n
theorem numsB_take (l : List Int) (k : Nat) (n : Int) (h : l[k]? = some n) : numsB (l.take (k + 1)) = numsB (l.take k) ++ 32 :: Lib.itoa n := by
  unfold numsB
  rw [List.take_add_one, h, List.flatMap_append]
  simp
theorem numsB_len : ∀ l : List Int, (∀ n ∈ l, -9223372036854775808 < n ∧ n ≤ 9223372036854775807) → (numsB l).length ≤ 22 * l.length
  | [], _ => by simp [numsB]
  | n :: l, h => by
    have h1 := numsB_len l fun x hx => h x (by simp [hx])
    obtain ⟨a, b⟩ := h n (by simp)
    have h2 := Lib.itoa_length_le n (by omega) b
    unfold numsB at h1 ⊢
    rw [List.flatMap_cons, List.length_append, List.length_cons, List.length_cons]
    omega
set_option maxHeartbeats 4000000 in
set_option maxRecDepth 100000 in
theorem nums_c (l : List Int) (g m c : Nat) (w : World) (hm : l.length = m) (hn : m ≤ 100) (hl : ∀ n ∈ l, -9223372036854775808 < n ∧ n ≤ 9223372036854775807) (hc : ∀ k n, l[k]? = some n → w.cell? ⟨g, k, none⟩ = some (.int .i64 n)) :
    Calls Tryz.prog 26 #[.slice (some ⟨g, 0, none⟩) m c] w fun e w' => e = .returned (.string ⟨(numsB l).toArray⟩) ∧ Below w.heap.size w w' := by
  have HC := hideR hc
  have HL := hideR hl
  have HM := hideR hm
  have H0 := hideR (Below.refl w.heap.size w)
  have hlen : Hid (∀ k, k ≤ m → (numsB (l.take k)).length ≤ 2200) := fun k hk => by
    have := numsB_len (l.take k) fun n hn => hl n (List.mem_of_mem_take hn)
    have h2 : (l.take k).length ≤ k := by simp; omega
    omega
  clear hc hl hm
  go_enter Tryz.func26, Tryz.ntmps26
  go_wp2_with fail
  go_loopw [3, 4] (fun x3 x4 wr => ∃ k : Nat, k ≤ m ∧ x3 = .string ⟨(numsB (l.take k)).toArray⟩ ∧ x4 = .int .i64 k ∧ Hid (Below w.heap.size w wr)) (fun x3 x4 _ => m - (intOf x4).toNat)
  case atStart => exact ⟨0, Nat.zero_le _, rfl, rfl, H0⟩
  case round =>
    obtain ⟨k, hk, rfl, rfl, HB⟩ := hrel
    by_cases hlt : k < m
    · obtain ⟨n, hn⟩ : ∃ n, l[k]? = some n := ⟨_, List.getElem?_eq_getElem (by rw [HM.out]; exact hlt)⟩
      have hb := HL.out n (List.mem_of_getElem? hn)
      have c0 := cell_at HB.out (HC.out k n hn)
      have HT := hideR (numsB_take l k n hn)
      have hl1 := hlen.out k hk
      have hl2 := Lib.itoa_length_le n (by omega) hb.2
      have HI := hideR (digits_c n hb.1 hb.2 wr)
      obtain ⟨X, hX⟩ : ∃ X, X = numsB (l.take k) := ⟨_, rfl⟩
      obtain ⟨Y, hY⟩ : ∃ Y, Y = Lib.itoa n := ⟨_, rfl⟩
      rw [← hX] at HT hl1
      rw [← hY] at HT HI hl2
      simp only [← hX]
      have hb1 : (9223372036854775807 < X.length + 1) = False := by simp; omega
      have hb2 : (9223372036854775807 < X.length + 1 + Y.length) = False := by simp; omega
      clear hX hY hn hb
      go_wp2_with (go_at_call 44; refine HI.out.mono ?_; rintro e w1 ⟨rfl, b1⟩)
      have B1 := hideR (HB.out.trans (b1.mono HB.out.size))
      clear b1
      go_roundw
      case rel => exact ⟨k + 1, by omega, by rw [HT.out]; exact congrArg Value.string (by rw [show (⟨#[32]⟩ : ByteArray) = ⟨[32].toArray⟩ from rfl, ba_app, ba_app]; simp), by go_num, B1⟩
      case measure => simp [intOf]; omega
    · obtain rfl : m = k := by omega
      have e : l.take m = l := by rw [← HM.out, List.take_length]
      rw [e]
      go_wp2_with fail
      go_ret
      exact ⟨rfl, HB.out⟩
end Go.Proofs.YtbpdbggojgijiaaGreatDoor.Src
