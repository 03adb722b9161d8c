/- A set is written. -/
import Derived.Test.YtbpdbggojgijiaaGreatDoorSourceB
import Derived.Test.YtbpdbggojgijiaaGreatDoorSourceC
namespace Go.Proofs.YtbpdbggojgijiaaGreatDoor.Src
open Go Go.RowKit
set_option linter.unusedVariables false

set_option maxHeartbeats 1000000 in
/-- a line of words that are given in a row of their own -/
theorem line_f (B b : Nat) (bs : By) (ws : List Wo) (cs : Array Value) (n : Nat) (w : World) (h : WrI B b bs w) (hcs : cs.toList = ws.map Wo.v) (hl : n = ws.length) (hok : ∀ x ∈ ws, x.ok) (hn : ws.length ≤ 100) (hlen : bs.length + ((joinW (ws.map Wo.b)).length + 1) ≤ 140737488355328) (hBw : B ≤ w.heap.size) (hT : ∀ v : World, Below B w v → TabW v) :
    Calls Tryz.prog 15 #[.pointer (some ⟨b, 0, none⟩), .slice (some ⟨w.heap.size, 0, none⟩) n n] (w.alloc (.cells cs 20)) fun e w' => e = .returned (.tuple #[]) ∧ WrI B b (bs ++ (joinW (ws.map Wo.b) ++ [10])) w' ∧ Below B w w' ∧ KW w w' := by
  subst hl
  have hb := (Below.refl _ w).alloc (Nat.le_refl _) (.cells cs 20)
  have hB : Below B w (w.alloc (.cells cs 20)) := hb.mono hBw
  refine (line_c B b bs ws w.heap.size 0 ws.length cs 20 (0, 0) (w.alloc (.cells cs 20)) (wr_on h hb) (World.alloc_heap_new _ _) (by decide) (by decide) ?_ hok hn (by omega) (by simp; omega) (fun v hv => hT v (hB.trans hv))).mono ?_
  · intro j x hx
    rw [Nat.zero_add, ← Array.getElem?_toList, hcs]
    simp [hx]
  · rintro e w' ⟨rfl, h1, h2, h3⟩
    exact ⟨rfl, h1, hB.trans h2, (kw_on hb).trans h3⟩
theorem lines_app (a b : List By) : linesB (a ++ b) = linesB a ++ linesB b := List.flatMap_append
theorem lines_one (a : By) : linesB [a] = a ++ [10] := by simp [linesB]
theorem mono_len {J : Nat → By} (h : ∀ k, ∃ s, J (k + 1) = J k ++ s) {k n : Nat} (hk : k ≤ n) : (J k).length ≤ (J n).length := by
  induction n with
  | zero => obtain rfl : k = 0 := by omega
            exact Nat.le_refl _
  | succ n ih =>
    by_cases e : k = n + 1
    · subst e; exact Nat.le_refl _
    · obtain ⟨s, hs⟩ := h n
      have := ih (by omega)
      rw [hs, List.length_append]
      omega
/-- the words of a rule -/
def ruleWo (r : Rl) : List Wo := [.t ⟨#[114, 117, 108, 101]⟩, .n r.f, .n r.t, .n r.m, .n r.k, .n r.wk, .n r.D, .n r.a, .n r.sv, .t (if r.s.data.toList = [] then ⟨#[45]⟩ else r.s)]
theorem rule_wo (r : Rl) : (ruleWo r).map Wo.b = lnRule Lib.itoa r := by
  unfold ruleWo lnRule letW
  simp only [List.map, Wo.b]
  congr 1
  by_cases e : r.s.data.toList = []
  · rw [if_pos e, if_pos e]
  · rw [if_neg e, if_neg e]
/-- what is written of a set whose first k rules are written -/
def setJ (x : St) (k : Nat) : By := linesB (joinW [wSet, x.nm.data.toList] :: (List.range k).map fun i => joinW (lnRule Lib.itoa (x.rs i)))
theorem setJ_succ (x : St) (k : Nat) : setJ x (k + 1) = setJ x k ++ (joinW (lnRule Lib.itoa (x.rs k)) ++ [10]) := by
  unfold setJ
  rw [List.range_succ, List.map_append, ← List.cons_append, lines_app]
  simp [linesB]
/-- numbers that Go bears -/
def Rl.numOk (r : Rl) : Prop := (Wo.n r.f).ok ∧ (Wo.n r.t).ok ∧ (Wo.n r.m).ok ∧ (Wo.n r.k).ok ∧ (Wo.n r.wk).ok ∧ (Wo.n r.D).ok ∧ (Wo.n r.a).ok ∧ (Wo.n r.sv).ok
theorem rule_ok {r : Rl} (h : Rl.numOk r) : ∀ x ∈ ruleWo r, x.ok := by
  obtain ⟨h1, h2, h3, h4, h5, h6, h7, h8⟩ := h
  intro x hx
  simp only [ruleWo, List.mem_cons, List.not_mem_nil, or_false] at hx
  rcases hx with rfl | rfl | rfl | rfl | rfl | rfl | rfl | rfl | rfl | rfl <;> first | assumption | exact trivial
set_option maxHeartbeats 8000000 in
set_option maxRecDepth 100000 in
theorem set_c (B b : Nat) (bs : By) (x : St) (w : World) (h : WrI B b bs w) (hR : ∀ v : World, Below B w v → ARow v x.a x.n x.c x.rs) (hok : ∀ i, i < x.n → Rl.numOk (x.rs i)) (hn : x.n ≤ 100) (hlen : bs.length + (setJ x x.n).length ≤ 140737488355328) (hBw : B ≤ w.heap.size) (hT : ∀ v : World, Below B w v → TabW v) :
    Calls Tryz.prog 13 #[.pointer (some ⟨b, 0, none⟩), .agg #[.string x.nm, x.sl]] w fun e w' => e = .returned (.tuple #[]) ∧ WrI B b (bs ++ setJ x x.n) w' ∧ Below B w w' ∧ KW w w' := by
  have HL : Hid (∀ k, k ≤ x.n → bs.length + (setJ x k).length ≤ 140737488355328) := fun k hk => by
    have := mono_len (J := setJ x) (fun k => ⟨_, setJ_succ x k⟩) hk
    omega
  have HR := hideS hR
  have HT := hideS hT
  have HO := hideS hok
  have HLf : Hid (∀ (bs' : By) (ws : List Wo) (cs : Array Value) (n g : Nat) (v : World), g = v.heap.size → Hid (WrI B b bs' v) → Hid (Below B w v) → cs.toList = ws.map Wo.v → n = ws.length → (∀ x ∈ ws, x.ok) → ws.length ≤ 100 → bs'.length + ((joinW (ws.map Wo.b)).length + 1) ≤ 140737488355328 → Calls Tryz.prog 15 #[.pointer (some ⟨b, 0, none⟩), .slice (some ⟨g, 0, none⟩) n n] (v.alloc (.cells cs 20)) fun e w' => e = .returned (.tuple #[]) ∧ WrI B b (bs' ++ (joinW (ws.map Wo.b) ++ [10])) w' ∧ Below B v w' ∧ KW v w') :=
    fun bs' ws cs n g v hg h1 h2 h3 h4 h5 h6 h7 => by rw [hg]; exact line_f B b bs' ws cs n v h1.out h3 h4 h5 h6 h7 (Nat.le_trans hBw h2.out.size) (fun u hu => HT.out u (h2.out.trans hu))
  have hb0 := (Below.refl _ w).alloc (Nat.le_refl _) (.cells #[.string x.nm, .slice x.a x.n x.c] 47)
  have H0 := hideS (wr_on h hb0)
  have B0 := hideS (hb0.mono hBw)
  have K0 := hideS (kw_on hb0)
  clear hb0 h hR hT hok
  have hl0 := HL.out 0 (Nat.zero_le _)
  rw [show (setJ x 0).length = (joinW [wSet, x.nm.data.toList]).length + 1 by unfold setJ; rw [List.range_zero, List.map_nil, lines_one, List.length_append]; rfl] at hl0
  have HS : Hid (∀ v : World, KW (w.alloc (.cells #[.string x.nm, .slice x.a x.n x.c] 47)) v → v.cell? ⟨w.heap.size, 1, none⟩ = some (.slice x.a x.n x.c)) := fun v hv => by
    rw [Lib.cell_of_heap (hv _ _ _ _ (World.alloc_heap_new _ _) (by decide) (by decide))]
    rfl
  have HZ : Hid (setJ x 0 = joinW ([.t ⟨#[115, 101, 116]⟩, .t x.nm].map Wo.b) ++ [10]) := by
    show setJ x 0 = _
    unfold setJ
    rw [List.range_zero, List.map_nil, lines_one]
    rfl
  have HOr : Hid (∀ (a : ByteArray) (v : World) (g : Nat), g = v.heap.size → Calls Tryz.prog 34 #[.slice (some ⟨g, 0, none⟩) 2 2] (v.alloc (.cells #[.string a, .string ⟨#[45]⟩] 9)) fun e w' => e = .returned (.string (if a.data.toList = [] then ⟨#[45]⟩ else a)) ∧ w' = v.alloc (.cells #[.string a, .string ⟨#[45]⟩] 9)) := fun a v g hg => by
    subst hg
    exact orS_c a _ 2 _ (box2 v _ _ _).1 (box2 v _ _ _).2
  go_enter Tryz.func13, Tryz.ntmps13
  go_wp2_with (go_at_call 15; refine (HLf.out bs [.t ⟨#[115, 101, 116]⟩, .t x.nm] _ _ _ (w.alloc (.cells #[.string x.nm, .slice x.a x.n x.c] 47)) (by simp) H0 B0 rfl rfl (by simp [Wo.ok]) (by simp) hl0).mono ?_; rintro e w1 ⟨rfl, i1, b1, k1⟩; have S1 := HS.out _ k1; have I1 : Hid (WrI B b (bs ++ setJ x 0) w1) := (by rw [HZ.out]; exact i1); have B1 := hideS (B0.out.trans b1); have K1 := hideS (K0.out.trans k1); clear i1 b1 k1)
  go_loopw [17] (fun x17 wr => ∃ k : Nat, k ≤ x.n ∧ x17 = .int .i64 k ∧ Hid (WrI B b (bs ++ setJ x k) wr) ∧ Hid (Below B w wr) ∧ Hid (KW w wr)) (fun x17 _ => x.n - (intOf x17).toNat)
  case atStart => exact ⟨0, Nat.zero_le _, rfl, I1, B1, K1⟩
  case round =>
    obtain ⟨k, hk, rfl, HI, HB, HK⟩ := hrel
    by_cases hlt : k < x.n
    · rcases HR.out wr HB.out with h0 | ⟨rb, off, hsa, hrow⟩
      · omega
      obtain ⟨g0, g1, g2, g3, g4, g5, g6, g7, g8⟩ := hrow k hlt
      have hl := HL.out (k + 1) hlt
      rw [setJ_succ, List.length_append, List.length_append] at hl
      have HJ := hideS (setJ_succ x k)
      have hok := rule_ok (HO.out k hlt)
      have hwo := rule_wo (x.rs k)
      obtain ⟨r, hr⟩ : ∃ r, r = x.rs k := ⟨_, rfl⟩
      rw [← hr] at g0 g1 g2 g3 g4 g5 g6 g7 g8 hl HJ hok hwo
      rw [← hwo] at HJ hl
      clear hrow hr hwo
      have hb2 := bthen ((Below.refl _ wr).alloc (Nat.le_refl _) (.cells r.cs 65)) ((Below.refl _ (wr.alloc (.cells r.cs 65))).alloc (Nat.le_refl _) (.cells #[.string r.s, .string ⟨#[45]⟩] 9))
      have I2 := hideS (wr_on HI.out hb2)
      have B2 := hideS (HB.out.trans (hb2.mono (Nat.le_trans hBw HB.out.size)))
      have K2 := hideS (HK.out.trans (kw_on hb2))
      have HOk := hideS hok
      have hl2 : (bs ++ setJ x k).length + ((joinW ((ruleWo r).map Wo.b)).length + 1) ≤ 140737488355328 := by rw [List.length_append]; simpa [Nat.add_assoc] using hl
      have HL2 := hideS hl2
      have HOr2 := hideS (fun v g hg => HOr.out r.s v g hg)
      obtain ⟨L, hL⟩ : ∃ L : ByteArray, L = if r.s.data.toList = [] then ⟨#[45]⟩ else r.s := ⟨_, rfl⟩
      rw [← hL] at HOr2
      have hws : Hid (ruleWo r = [.t ⟨#[114, 117, 108, 101]⟩, .n r.f, .n r.t, .n r.m, .n r.k, .n r.wk, .n r.D, .n r.a, .n r.sv, .t L]) := by rw [hL]; rfl
      clear hb2 hok hl hl2 hL HOr
      go_wp2_with (first
        | (go_at_call 34; refine (HOr2.out _ _ (by simp)).mono ?_; rintro e w2 ⟨rfl, rfl⟩)
        | (go_at_call 15; refine (HLf.out _ (ruleWo r) _ _ _ _ ?hg I2 B2 ?hc ?hn HOk.out ?hm HL2.out).mono ?_; rotate_left 4; rintro e w3 ⟨rfl, i3, b3, k3⟩))
      case hg => simp
      case hc => rw [hws.out]; rfl
      case hn => rw [hws.out]; rfl
      case hm => rw [hws.out]; simp
      have I3 : Hid (WrI B b (bs ++ setJ x (k + 1)) w3) := by
        show WrI B b (bs ++ setJ x (k + 1)) w3
        rw [HJ.out, ← List.append_assoc]
        exact i3
      have B3 := hideS (B2.out.trans b3)
      have K3 := hideS (K2.out.trans k3)
      clear i3 b3 k3
      try simp only [← hsa]
      go_roundw
      case rel => exact ⟨k + 1, by omega, by go_num, I3, B3, K3⟩
      case measure => simp [intOf]; omega
    · obtain rfl : k = x.n := by omega
      go_wp2_with fail
      go_end0
      exact ⟨rfl, HI.out, HB.out, HK.out⟩
end Go.Proofs.YtbpdbggojgijiaaGreatDoor.Src
