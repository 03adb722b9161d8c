/- A zone is written. -/
import Derived.Test.YtbpdbggojgijiaaGreatDoorSourceD
namespace Go.Proofs.YtbpdbggojgijiaaGreatDoor.Src
open Go Go.RowKit
set_option linter.unusedVariables false

/-- the words of an era -/
def eraWo (x : Er) : List Wo := [.t ⟨#[101, 114, 97]⟩, .n x.std, .n x.set, .n x.sv, .t x.fm, .n x.un]
theorem era_wo (x : Er) : (eraWo x).map Wo.b = lnEra Lib.itoa x := rfl
/-- what is written of a zone whose first k eras are written -/
def zoneJ (x : Zn) (k : Nat) : By := linesB (joinW [wZone, x.nm.data.toList] :: (List.range k).map fun i => joinW (lnEra Lib.itoa (x.es i)))
theorem zoneJ_succ (x : Zn) (k : Nat) : zoneJ x (k + 1) = zoneJ x k ++ (joinW (lnEra Lib.itoa (x.es k)) ++ [10]) := by
  unfold zoneJ
  rw [List.range_succ, List.map_append, ← List.cons_append, lines_app]
  simp [linesB]
def Er.numOk (x : Er) : Prop := (Wo.n x.std).ok ∧ (Wo.n x.set).ok ∧ (Wo.n x.sv).ok ∧ (Wo.n x.un).ok
theorem era_ok {x : Er} (h : Er.numOk x) : ∀ y ∈ eraWo x, y.ok := by
  obtain ⟨h1, h2, h3, h4⟩ := h
  intro y hy
  simp only [eraWo, List.mem_cons, List.not_mem_nil, or_false] at hy
  rcases hy with rfl | rfl | rfl | rfl | rfl | rfl <;> first | assumption | exact trivial
set_option maxHeartbeats 8000000 in
set_option maxRecDepth 100000 in
theorem zone_c (B b : Nat) (bs : By) (x : Zn) (w : World) (h : WrI B b bs w) (hR : ∀ v : World, Below B w v → ERow v x.a x.n x.es) (hok : ∀ i, i < x.n → Er.numOk (x.es i)) (hn : x.n ≤ 100) (hlen : bs.length + (zoneJ x x.n).length ≤ 140737488355328) (hBw : B ≤ w.heap.size) (hT : ∀ v : World, Below B w v → TabW v) :
    Calls Tryz.prog 14 #[.pointer (some ⟨b, 0, none⟩), .agg #[.string x.nm, x.sl]] w fun e w' => e = .returned (.tuple #[]) ∧ WrI B b (bs ++ zoneJ x x.n) w' ∧ Below B w w' ∧ KW w w' := by
  have HL : Hid (∀ k, k ≤ x.n → bs.length + (zoneJ x k).length ≤ 140737488355328) := fun k hk => by
    have := mono_len (J := zoneJ x) (fun k => ⟨_, zoneJ_succ x k⟩) hk
    omega
  have HR := hideS hR
  have HT := hideS hT
  have HO := hideS hok
  have HLf : Hid (∀ (bs' : By) (ws : List Wo) (cs : Array Value) (n g : Nat) (v : World), g = v.heap.size → Hid (WrI B b bs' v) → Hid (Below B w v) → cs.toList = ws.map Wo.v → n = ws.length → (∀ x ∈ ws, x.ok) → ws.length ≤ 100 → bs'.length + ((joinW (ws.map Wo.b)).length + 1) ≤ 140737488355328 → Calls Tryz.prog 15 #[.pointer (some ⟨b, 0, none⟩), .slice (some ⟨g, 0, none⟩) n n] (v.alloc (.cells cs 20)) fun e w' => e = .returned (.tuple #[]) ∧ WrI B b (bs' ++ (joinW (ws.map Wo.b) ++ [10])) w' ∧ Below B v w' ∧ KW v w') :=
    fun bs' ws cs n g v hg h1 h2 h3 h4 h5 h6 h7 => by rw [hg]; exact line_f B b bs' ws cs n v h1.out h3 h4 h5 h6 h7 (Nat.le_trans hBw h2.out.size) (fun u hu => HT.out u (h2.out.trans hu))
  have hb0 := (Below.refl _ w).alloc (Nat.le_refl _) (.cells #[.string x.nm, .slice x.a x.n x.c] 51)
  have H0 := hideS (wr_on h hb0)
  have B0 := hideS (hb0.mono hBw)
  have K0 := hideS (kw_on hb0)
  clear hb0 h hR hT hok
  have hl0 := HL.out 0 (Nat.zero_le _)
  rw [show (zoneJ x 0).length = (joinW [wZone, x.nm.data.toList]).length + 1 by unfold zoneJ; rw [List.range_zero, List.map_nil, lines_one, List.length_append]; rfl] at hl0
  have HS : Hid (∀ v : World, KW (w.alloc (.cells #[.string x.nm, .slice x.a x.n x.c] 51)) v → v.cell? ⟨w.heap.size, 1, none⟩ = some (.slice x.a x.n x.c)) := fun v hv => by
    rw [Lib.cell_of_heap (hv _ _ _ _ (World.alloc_heap_new _ _) (by decide) (by decide))]
    rfl
  have HZ : Hid (zoneJ x 0 = joinW ([.t ⟨#[122, 111, 110, 101]⟩, .t x.nm].map Wo.b) ++ [10]) := by
    show zoneJ x 0 = _
    unfold zoneJ
    rw [List.range_zero, List.map_nil, lines_one]
    rfl
  go_enter Tryz.func14, Tryz.ntmps14
  go_wp2_with (go_at_call 15; refine (HLf.out bs [.t ⟨#[122, 111, 110, 101]⟩, .t x.nm] _ _ _ (w.alloc (.cells #[.string x.nm, .slice x.a x.n x.c] 51)) (by simp) H0 B0 rfl rfl (by simp [Wo.ok]) (by simp) hl0).mono ?_; rintro e w1 ⟨rfl, i1, b1, k1⟩; have S1 := HS.out _ k1; have I1 : Hid (WrI B b (bs ++ zoneJ x 0) w1) := (by rw [HZ.out]; exact i1); have B1 := hideS (B0.out.trans b1); have K1 := hideS (K0.out.trans k1); clear i1 b1 k1)
  go_loopw [16] (fun x16 wr => ∃ k : Nat, k ≤ x.n ∧ x16 = .int .i64 k ∧ Hid (WrI B b (bs ++ zoneJ x k) wr) ∧ Hid (Below B w wr) ∧ Hid (KW w wr)) (fun x16 _ => x.n - (intOf x16).toNat)
  case atStart => exact ⟨0, Nat.zero_le _, rfl, I1, B1, K1⟩
  case round =>
    obtain ⟨k, hk, rfl, HI, HB, HK⟩ := hrel
    by_cases hlt : k < x.n
    · rcases HR.out wr HB.out with h0 | ⟨rb, off, hsa, hrow⟩
      · omega
      obtain ⟨g0, g1, g2, g3, g4⟩ := hrow k hlt
      have hl := HL.out (k + 1) hlt
      rw [zoneJ_succ, List.length_append, List.length_append] at hl
      have HJ := hideS (zoneJ_succ x k)
      have hok := era_ok (HO.out k hlt)
      have hwo := era_wo (x.es k)
      obtain ⟨r, hr⟩ : ∃ r, r = x.es k := ⟨_, rfl⟩
      rw [← hr] at g0 g1 g2 g3 g4 hl HJ hok hwo
      rw [← hwo] at HJ hl
      clear hrow hr hwo
      have hb2 := (Below.refl _ wr).alloc (Nat.le_refl _) (.cells #[.int .i64 r.std, .int .i64 r.set, .int .i64 r.sv, .string r.fm, .int .i64 r.un] 67)
      have I2 := hideS (wr_on HI.out hb2)
      have B2 := hideS (HB.out.trans (hb2.mono (Nat.le_trans hBw HB.out.size)))
      have K2 := hideS (HK.out.trans (kw_on hb2))
      have HOk := hideS hok
      have hl2 : (bs ++ zoneJ x k).length + ((joinW ((eraWo r).map Wo.b)).length + 1) ≤ 140737488355328 := by rw [List.length_append]; simpa [Nat.add_assoc] using hl
      have HL2 := hideS hl2
      clear hb2 hok hl hl2
      go_wp2_with (first
        | (go_at_call 15; refine (HLf.out _ (eraWo r) _ _ _ _ ?hg I2 B2 ?hc ?hn HOk.out ?hm HL2.out).mono ?_; rotate_left 4; rintro e w3 ⟨rfl, i3, b3, k3⟩))
      case hg => simp
      case hc => rfl
      case hn => rfl
      case hm => simp [eraWo]
      have I3 : Hid (WrI B b (bs ++ zoneJ x (k + 1)) w3) := by
        show WrI B b (bs ++ zoneJ x (k + 1)) w3
        rw [HJ.out, ← List.append_assoc]
        exact i3
      have B3 := hideS (B2.out.trans b3)
      have K3 := hideS (K2.out.trans k3)
      clear i3 b3 k3
      try simp only [← hsa]
      go_roundw
      case rel => exact ⟨k + 1, by omega, by go_num, I3, B3, K3⟩
      case measure => simp [intOf]; omega
    · obtain rfl : k = x.n := by omega
      go_wp2_with fail
      go_end0
      exact ⟨rfl, HI.out, HB.out, HK.out⟩
end Go.Proofs.YtbpdbggojgijiaaGreatDoor.Src
