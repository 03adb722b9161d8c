/- The document's own: data as text. -/
import Derived.Test.YtbpdbggojgijiaaGreatDoorSrcRB
import Derived.Test.YtbpdbggojgijiaaGreatDoorSourceGAll
import Derived.Deep.RegionHeld3
import Derived.Deep.RegionHeldLaw
import Derived.Deep.CutRange
namespace Go.Proofs.YtbpdbggojgijiaaGreatDoor.Src
open Go Go.RowKit Go.Maps
set_option linter.unusedVariables false
set_option linter.unusedSimpArgs false

def ruNums (r : Rl) : List Int := [r.f, r.t, r.m, r.k, r.wk, r.D, r.a, r.sv]
def ruLine (r : Rl) : By := wRule ++ (numsB (ruNums r) ++ (32 :: (letW r ++ [10])))
def erLine (x : Er) : By := wEra ++ (numsB [x.std, x.set, x.sv] ++ (32 :: (x.fm.data.toList ++ (numsB [x.un] ++ [10]))))
theorem ru_line (r : Rl) : joinW (lnRule Lib.itoa r) ++ [10] = ruLine r := by
  unfold ruLine lnRule numsB ruNums
  simp [joinW]
theorem er_line (x : Er) : joinW (lnEra Lib.itoa x) ++ [10] = erLine x := by
  unfold erLine lnEra numsB
  simp [joinW]
/-- numbers that are far from Go's bounds -/
abbrev smI (n : Int) : Prop := -9223372036854775808 < n ∧ n ≤ 9223372036854775807
theorem rule_small {r : Rl} (h : rchk r = 0) : ∀ n ∈ ruNums r, smI n := by
  obtain ⟨h1, h2, _⟩ := rule_parts h
  have a := bnd_of h1
  have b := chk_bd h2
  intro n hn
  unfold ruNums at hn
  simp only [List.mem_cons, List.not_mem_nil, or_false] at hn
  unfold smI
  rcases hn with rfl | rfl | rfl | rfl | rfl | rfl | rfl | rfl <;> omega
theorem era_small {D : Dt} (h : chkE D = 0) {j i : Nat} (hj : j < D.nz) (hi : i < (D.zs j).n) : smI ((D.zs j).es i).std ∧ smI ((D.zs j).es i).set ∧ smI ((D.zs j).es i).sv ∧ smI ((D.zs j).es i).un := by
  have h1 := ebnd_of (chk_era h hj hi)
  obtain ⟨h2, h3⟩ := (chk_all h).2.2.1 j hj
  have h4 := un_hi ((D.zs j).n - i - 1) i (D.zs j).n (by omega) (fun k hk => (h2 k hk).2) h3
  have h5 := un_lo i (D.zs j).n hi (fun k hk => (h2 k hk).2)
  have h6 := (chk_all h).1.1.1
  unfold smI
  omega
/-- texts that grow set by set and rule by rule, zone by zone and era by era, link by link -/
structure dtT (ns nz nl : Nat) (snm : Nat → ByteArray) (sn : Nat → Nat) (rs : Nat → Nat → Rl) (znm : Nat → ByteArray) (zn : Nat → Nat) (es : Nat → Nat → Er) (l1 l2 : Nat → ByteArray) (TA : Nat → By) (TS : Nat → Nat → By) (TZ : Nat → By) (TE : Nat → Nat → By) (TL : Nat → By) : Prop where
  a0 : TA 0 = []
  s0 : ∀ k, TS k 0 = TA k ++ ([115, 101, 116, 32] ++ ((snm k).data.toList ++ [10]))
  s1 : ∀ k i, TS k (i + 1) = TS k i ++ ruLine (rs k i)
  s2 : ∀ k, TS k (sn k) = TA (k + 1)
  z0 : TZ 0 = TA ns
  e0 : ∀ k, TE k 0 = TZ k ++ ([122, 111, 110, 101, 32] ++ ((znm k).data.toList ++ [10]))
  e1 : ∀ k i, TE k (i + 1) = TE k i ++ erLine (es k i)
  e2 : ∀ k, TE k (zn k) = TZ (k + 1)
  l0 : TL 0 = TZ nz
  l1 : ∀ k, TL (k + 1) = TL k ++ ([108, 105, 110, 107, 32] ++ ((l1 k).data.toList ++ (32 :: ((l2 k).data.toList ++ [10]))))
  la : ∀ k, k ≤ ns → (TA k).length ≤ 1000000
  ls : ∀ k i, k < ns → i ≤ sn k → (TS k i).length ≤ 1000000
  lz : ∀ k, k ≤ nz → (TZ k).length ≤ 1000000
  le : ∀ k i, k < nz → i ≤ zn k → (TE k i).length ≤ 1000000
  ll : ∀ k, k ≤ nl → (TL k).length ≤ 1000000
theorem set_text {X T : By} {nm : ByteArray} {N : By} (hN : nm = ⟨N.toArray⟩) (h : T = X ++ ([115, 101, 116, 32] ++ (nm.data.toList ++ [10]))) : (⟨X.toArray⟩ : ByteArray) ++ ⟨#[115, 101, 116, 32]⟩ ++ ⟨N.toArray⟩ ++ ⟨#[10]⟩ = ⟨T.toArray⟩ := by
  rw [h, hN, show (⟨#[115, 101, 116, 32]⟩ : ByteArray) = ⟨[115, 101, 116, 32].toArray⟩ from rfl, show (⟨#[10]⟩ : ByteArray) = ⟨[10].toArray⟩ from rfl, ba_app, ba_app, ba_app]
  simp
theorem big_no {a : Nat} (h : a ≤ 1000000000) : (9223372036854775807 < a) = False := by simp; omega
theorem by_of (s : ByteArray) : ∃ l : By, s = ⟨l.toArray⟩ := ⟨s.data.toList, by simp⟩
theorem nums_f (l : List Int) (cs : Array Value) (n g : Nat) (v : World) (hg : g = v.heap.size) (hcs : cs.toList = l.map (Value.int .i64)) (hn : n = l.length) (h1 : l.length ≤ 100) (hl : ∀ n ∈ l, smI n) : Calls Tryz.prog 26 #[.slice (some ⟨g, 0, none⟩) n n] (v.alloc (.cells cs 3)) fun e w' => e = .returned (.string ⟨(numsB l).toArray⟩) ∧ Below (v.alloc (.cells cs 3)).heap.size (v.alloc (.cells cs 3)) w' := by
  subst hg
  refine nums_c l v.heap.size n n _ hn.symm (by omega) hl (fun k m hk => ?_)
  rw [Lib.cell_of_heap (World.alloc_heap_new v (.cells cs 3))]
  show cs[k]? = _
  rw [← Array.getElem?_toList, hcs, List.getElem?_map, hk]
  rfl
theorem nums_h (l : List Int) (cs : Array Value) (n g : Nat) (v : World) (hg : v.heap[g]? = some (.cells cs 3)) (hcs : cs.toList = l.map (Value.int .i64)) (hn : n = l.length) (h1 : l.length ≤ 100) (hl : ∀ n ∈ l, smI n) : Calls Tryz.prog 26 #[.slice (some ⟨g, 0, none⟩) n n] v fun e w' => e = .returned (.string ⟨(numsB l).toArray⟩) ∧ Below v.heap.size v w' := by
  refine nums_c l g n n _ hn.symm (by omega) hl (fun k m hk => ?_)
  rw [Lib.cell_of_heap hg]
  show cs[k]? = _
  rw [← Array.getElem?_toList, hcs, List.getElem?_map, hk]
  rfl
theorem bdrewN {B : Nat} {a w : World} (h : Below B a w) (n : Nat) : Below B a (w.drewN n) := ⟨h.os, h.tape, h.output, h.size, h.block⟩
theorem bal {w v : World} {o : Obj} (h : Below w.heap.size w v) : Below w.heap.size w (v.alloc o) := h.alloc h.size o
theorem cells5 {w : World} {b : Nat} {x0 x1 x2 x3 x4 : Value} {t : TypeId} (h : w.heap[b]? = some (.cells #[x0, x1, x2, x3, x4] t)) : w.cell? ⟨b, 0, none⟩ = some x0 ∧ w.cell? ⟨b, 1, none⟩ = some x1 ∧ w.cell? ⟨b, 2, none⟩ = some x2 ∧ w.cell? ⟨b, 3, none⟩ = some x3 ∧ w.cell? ⟨b, 4, none⟩ = some x4 := by
  refine ⟨?_, ?_, ?_, ?_, ?_⟩ <;> simp [World.cell?, h]
theorem zone_text {X T : By} {nm : ByteArray} {N : By} (hN : nm = ⟨N.toArray⟩) (h : T = X ++ ([122, 111, 110, 101, 32] ++ (nm.data.toList ++ [10]))) : (⟨X.toArray⟩ : ByteArray) ++ ⟨#[122, 111, 110, 101, 32]⟩ ++ ⟨N.toArray⟩ ++ ⟨#[10]⟩ = ⟨T.toArray⟩ := by
  rw [h, hN, show (⟨#[122, 111, 110, 101, 32]⟩ : ByteArray) = ⟨[122, 111, 110, 101, 32].toArray⟩ from rfl, show (⟨#[10]⟩ : ByteArray) = ⟨[10].toArray⟩ from rfl, ba_app, ba_app, ba_app]
  simp
theorem link_text {X T N M : By} {a b : ByteArray} (hN : a = ⟨N.toArray⟩) (hM : b = ⟨M.toArray⟩) (h : T = X ++ ([108, 105, 110, 107, 32] ++ (a.data.toList ++ (32 :: (b.data.toList ++ [10]))))) : (⟨X.toArray⟩ : ByteArray) ++ ⟨#[108, 105, 110, 107, 32]⟩ ++ ⟨N.toArray⟩ ++ ⟨#[32]⟩ ++ ⟨M.toArray⟩ ++ ⟨#[10]⟩ = ⟨T.toArray⟩ := by
  rw [h, hN, hM, show (⟨#[108, 105, 110, 107, 32]⟩ : ByteArray) = ⟨[108, 105, 110, 107, 32].toArray⟩ from rfl, show (⟨#[10]⟩ : ByteArray) = ⟨[10].toArray⟩ from rfl, show (⟨#[32]⟩ : ByteArray) = ⟨[32].toArray⟩ from rfl, ba_app, ba_app, ba_app, ba_app, ba_app]
  simp
theorem era_text {X T Y U N : By} {x : Er} (hN : x.fm = ⟨N.toArray⟩) (hY : Y = numsB [x.std, x.set, x.sv]) (hU : U = numsB [x.un]) (h : T = X ++ erLine x) : (⟨X.toArray⟩ : ByteArray) ++ ⟨#[101, 114, 97]⟩ ++ ⟨Y.toArray⟩ ++ ⟨#[32]⟩ ++ ⟨N.toArray⟩ ++ ⟨U.toArray⟩ ++ ⟨#[10]⟩ = ⟨T.toArray⟩ := by
  rw [h, hY, hU, show (⟨#[101, 114, 97]⟩ : ByteArray) = ⟨[101, 114, 97].toArray⟩ from rfl, show (⟨#[10]⟩ : ByteArray) = ⟨[10].toArray⟩ from rfl, show (⟨#[32]⟩ : ByteArray) = ⟨[32].toArray⟩ from rfl, ba_app, ba_app, ba_app, ba_app, ba_app, ba_app]
  unfold erLine
  rw [hN]
  simp
theorem rule_text {X T Y L : By} {r : Rl} (hY : Y = numsB (ruNums r)) (hL : L = letW r) (h : T = X ++ ruLine r) : (⟨X.toArray⟩ : ByteArray) ++ ⟨#[114, 117, 108, 101]⟩ ++ ⟨Y.toArray⟩ ++ ⟨#[32]⟩ ++ ⟨L.toArray⟩ ++ ⟨#[10]⟩ = ⟨T.toArray⟩ := by
  rw [h, hY, hL, show (⟨#[114, 117, 108, 101]⟩ : ByteArray) = ⟨[114, 117, 108, 101].toArray⟩ from rfl, show (⟨#[10]⟩ : ByteArray) = ⟨[10].toArray⟩ from rfl, show (⟨#[32]⟩ : ByteArray) = ⟨[32].toArray⟩ from rfl, ba_app, ba_app, ba_app, ba_app, ba_app]
  unfold ruLine
  simp
set_option maxRecDepth 100000 in
set_option maxHeartbeats 16000000 in
theorem DataText_x (sa za la : Option Addr) (ns nz nl sc zc lc : Nat) (snm : Nat → ByteArray) (sn : Nat → Nat) (ra : Nat → Option Addr) (rc : Nat → Nat) (rs : Nat → Nat → Rl) (znm : Nat → ByteArray) (zn : Nat → Nat) (ea : Nat → Option Addr) (ec : Nat → Nat) (es : Nat → Nat → Er) (l1 l2 : Nat → ByteArray) (w : World)
    (S1 : P2 w sa ns (fun j => .string (snm j)) (fun j => .slice (ra j) (sn j) (rc j))) (R1 : ∀ j, j < ns → ARow w (ra j) (sn j) (rc j) (rs j))
    (Z1 : P2 w za nz (fun j => .string (znm j)) (fun j => .slice (ea j) (zn j) (ec j))) (E1 : ∀ j, j < nz → ERow w (ea j) (zn j) (es j))
    (L1 : P2 w la nl (fun j => .string (l1 j)) (fun j => .string (l2 j)))
    (n1 : ns ≤ 100) (n2 : nz ≤ 100) (n3 : nl ≤ 100) (m1 : ∀ j, j < ns → sn j ≤ 100) (m2 : ∀ j, j < nz → zn j ≤ 100)
    (q1 : ∀ j, j < ns → ∀ i, i < sn j → ∀ n ∈ ruNums (rs j i), smI n) (q2 : ∀ j, j < nz → ∀ i, i < zn j → smI (es j i).std ∧ smI (es j i).set ∧ smI (es j i).sv ∧ smI (es j i).un)
    (TA : Nat → By) (TS : Nat → Nat → By) (TZ : Nat → By) (TE : Nat → Nat → By) (TL : Nat → By) (hT : dtT ns nz nl snm sn rs znm zn es l1 l2 TA TS TZ TE TL) :
    Calls Tryz.prog 7 #[.agg #[.slice sa ns sc, .slice za nz zc, .slice la nl lc]] w fun e w' => e = .returned (.string ⟨(TL nl).toArray⟩) ∧ Below w.heap.size w w' := by
  have b0 := (Below.refl _ w).alloc (Nat.le_refl _) (.cells #[.slice sa ns sc, .slice za nz zc, .slice la nl lc] 26)
  obtain ⟨W, hW⟩ : ∃ W, W = w.alloc (.cells #[.slice sa ns sc, .slice za nz zc, .slice la nl lc] 26) := ⟨_, rfl⟩
  have Q0 : Hid (W.heap[w.heap.size]? = some (.cells #[.slice sa ns sc, .slice za nz zc, .slice la nl lc] 26)) := by
    show _ = _
    rw [hW]
    exact World.alloc_heap_new _ _
  rw [← hW] at b0
  have HW := hideS hW
  have HS1 := hideS (S1.on b0)
  have HR1 : Hid (∀ j, j < ns → ARow W (ra j) (sn j) (rc j) (rs j)) := fun j hj => (R1 j hj).on b0
  have HZ1 := hideS (Z1.on b0)
  have HE1 : Hid (∀ j, j < nz → ERow W (ea j) (zn j) (es j)) := fun j hj => (E1 j hj).on b0
  have HL1 := hideS (L1.on b0)
  have HT := hideS hT
  have HM1 := hideS m1
  have HM2 := hideS m2
  have HQ1 := hideS q1
  have HQ2 := hideS q2
  have HB := hideS b0
  have HK0 := hideS (Below.refl W.heap.size W)
  have HA0 : Hid (TA 0 = []) := hT.a0
  clear S1 R1 Z1 E1 L1 hT m1 m2 q1 q2 b0 hW
  go_enter Tryz.func7, Tryz.ntmps7
  go_upto_region 1 with fail
  simp only [← HW.out]
  go_wp2_with fail
  go_loopw [3, 4] (fun x3 x4 wr => ∃ k : Nat, k ≤ ns ∧ x3 = .string ⟨(TA k).toArray⟩ ∧ x4 = .int .i64 k ∧ Hid (Below W.heap.size W wr)) (fun x3 x4 _ => ns - (intOf x4).toNat)
  case atStart => exact ⟨0, Nat.zero_le _, by rw [HA0.out], rfl, HK0⟩
  case round =>
    obtain ⟨k, hk, rfl, rfl, K1⟩ := hrel
    obtain ⟨p0, p1, p2⟩ := cells3 (heap_on Q0.out K1.out)
    by_cases hlt : k < ns
    · rcases HS1.out with h0 | ⟨b, off, hsa, hcs⟩
      · omega
      subst hsa
      have d0 := cell_on (hcs k hlt).1 K1.out
      have d1 := cell_on (hcs k hlt).2 K1.out
      have D1 := hideS (hcs k hlt).2
      obtain ⟨N, hN⟩ := by_of (snm k)
      have HV := hideS (set_text hN (HT.out.s0 k))
      have hl := HT.out.ls k 0 hlt (Nat.zero_le _)
      rw [HT.out.s0 k, hN] at hl
      simp at hl
      simp only [hN] at d0
      have hk0 : decide ((k : Int) < 0) = false := by simp
      have hkn : decide (ns ≤ k) = false := by simp; omega
      have hki : (k : Int) < (ns : Int) := by omega
      obtain ⟨X, hX⟩ : ∃ X, X = TA k := ⟨_, rfl⟩
      rw [← hX] at HV hl
      simp only [← hX]
      have g1 := big_no (a := X.length + 4) (by omega)
      have g2 := big_no (a := X.length + 4 + N.length) (by omega)
      have g3 := big_no (a := X.length + 4 + N.length + 1) (by omega)
      clear hcs hN hX
      go_wp2_with fail
      rw [HV.out]
      obtain ⟨A, hA⟩ : ∃ A, A = ra k := ⟨_, rfl⟩
      obtain ⟨M, hM⟩ : ∃ M, M = sn k := ⟨_, rfl⟩
      obtain ⟨C, hC⟩ : ∃ C, C = rc k := ⟨_, rfl⟩
      have HRk := hideS (HR1.out k hlt)
      have HMk := HM1.out k hlt
      have HQk := hideS (HQ1.out k hlt)
      have HLk : Hid (∀ i, i ≤ sn k → (TS k i).length ≤ 1000000) := fun i hi => HT.out.ls k i hlt hi
      have HTk : Hid (∀ i, TS k (i + 1) = TS k i ++ ruLine (rs k i)) := HT.out.s1 k
      have HEk : Hid (TS k (sn k) = TA (k + 1)) := HT.out.s2 k
      rw [← hA, ← hM, ← hC] at HRk
      simp only [← hA, ← hM, ← hC] at D1
      rw [← hM] at HMk HQk HLk HEk
      clear hA hM hC d0 d1 hl g1 g2 g3 HV p0 p1 p2
      obtain ⟨wo, hwo⟩ : ∃ wo, wo = wr := ⟨_, rfl⟩
      simp only [← hwo] at K1 ⊢
      clear hwo
      go_loopw [3, 5] (fun x3 x5 wr => ∃ i : Nat, i ≤ M ∧ x3 = .string ⟨(TS k i).toArray⟩ ∧ x5 = .int .i64 i ∧ Hid (Below W.heap.size W wr)) (fun x3 x5 _ => M - (intOf x5).toNat)
      case atStart => exact ⟨0, Nat.zero_le _, rfl, rfl, K1⟩
      case round =>
        obtain ⟨i, hi, rfl, rfl, K3⟩ := hrel
        obtain ⟨p0, p1, p2⟩ := cells3 (heap_on Q0.out K3.out)
        have d1 := cell_on D1.out K3.out
        by_cases hil : i < M
        · rcases HRk.out with h0 | ⟨rb, ro, hra, hrow⟩
          · omega
          subst hra
          obtain ⟨f0, f1, f2, f3, f4, f5, f6, f7, f8⟩ := hrow i hil
          have g0 := cell_on f0 K3.out
          have g1 := cell_on f1 K3.out
          have g2 := cell_on f2 K3.out
          have g3 := cell_on f3 K3.out
          have g4 := cell_on f4 K3.out
          have g5 := cell_on f5 K3.out
          have g6 := cell_on f6 K3.out
          have g7 := cell_on f7 K3.out
          have g8 := cell_on f8 K3.out
          have hq := HQk.out i hil
          have HTi := hideS (HTk.out i)
          have hl := HLk.out (i + 1) hil
          obtain ⟨r, hr⟩ : ∃ r, r = rs k i := ⟨_, rfl⟩
          rw [← hr] at g0 g1 g2 g3 g4 g5 g6 g7 g8 hq HTi
          rw [HTi.out] at hl
          obtain ⟨N, hN⟩ := by_of r.s
          rw [hN] at g8
          obtain ⟨X, hX⟩ : ∃ X, X = TS k i := ⟨_, rfl⟩
          obtain ⟨Y, hY⟩ : ∃ Y, Y = numsB (ruNums r) := ⟨_, rfl⟩
          have HNm : Hid (∀ (g : Nat) (v : World), g = v.heap.size → Calls Tryz.prog 26 #[.slice (some ⟨g, 0, none⟩) 8 8] (v.alloc (.cells #[.int .i64 r.f, .int .i64 r.t, .int .i64 r.m, .int .i64 r.k, .int .i64 r.wk, .int .i64 r.D, .int .i64 r.a, .int .i64 r.sv] 3)) fun e w' => e = .returned (.string ⟨Y.toArray⟩) ∧ Below (v.alloc (.cells #[.int .i64 r.f, .int .i64 r.t, .int .i64 r.m, .int .i64 r.k, .int .i64 r.wk, .int .i64 r.D, .int .i64 r.a, .int .i64 r.sv] 3)).heap.size (v.alloc (.cells #[.int .i64 r.f, .int .i64 r.t, .int .i64 r.m, .int .i64 r.k, .int .i64 r.wk, .int .i64 r.D, .int .i64 r.a, .int .i64 r.sv] 3)) w') := fun g v hg => by
            rw [hY]
            exact nums_f (ruNums r) _ 8 g v hg rfl rfl (by simp [ruNums]) hq
          have hk0 : decide ((i : Int) < 0) = false := by simp
          have hkn : decide (M ≤ i) = false := by simp; omega
          have hki : (i : Int) < (M : Int) := by omega
          have hlY : X.length + Y.length ≤ 1000000 := by
            unfold ruLine at hl
            rw [← hX, ← hY] at hl
            simp at hl
            omega
          have hbx := hideS ((Below.refl _ wr).alloc (Nat.le_refl _) (.cells #[.int .i64 r.f, .int .i64 r.t, .int .i64 r.m, .int .i64 r.k, .int .i64 r.wk, .int .i64 r.D, .int .i64 r.a, .int .i64 r.sv, .string ⟨N.toArray⟩] 65))
          have hLL : ∃ L : By, L = letW r ∧ L.length ≤ 1000000 := ⟨_, rfl, by
            unfold ruLine at hl
            simp at hl
            omega⟩
          rw [← hX] at HTi
          simp only [← hX]
          have k1 := big_no (a := X.length + 4) (by omega)
          have k2 := big_no (a := X.length + 4 + Y.length) (by omega)
          have k3 := big_no (a := X.length + 4 + Y.length + 1) (by omega)
          clear hrow f0 f1 f2 f3 f4 f5 f6 f7 f8 hq hr hX
          by_cases hN0 : N = []
          · subst hN0
            have HLe : Hid ([45] = letW r) := by
              show _ = _
              unfold letW
              rw [hN]
              rfl
            have HV := hideS (rule_text hY HLe.out HTi.out)
            have k4 := big_no (a := X.length + 4 + Y.length + 1 + 1) (by omega)
            have k5 := big_no (a := X.length + 4 + Y.length + 1 + 1 + 1) (by omega)
            clear hLL hN hY hl
            go_wp2_with (go_at_call 26; refine (HNm.out _ _ (by simp)).mono ?_; rintro e w3 ⟨rfl, b3⟩)
            have B3 := hideS (bthen (bal (bthen K3.out hbx.out)) b3)
            clear b3
            go_roundw
            case rel => exact ⟨i + 1, hil, congrArg Value.string HV.out, by go_num, B3⟩
            case measure => simp [intOf]; omega
          · have HLe : Hid (N = letW r) := by
              show _ = _
              unfold letW
              rw [hN]
              exact (if_neg hN0).symm
            have HV := hideS (rule_text hY HLe.out HTi.out)
            have hNl : N.length ≤ 1000000 := by
              obtain ⟨L, hL1, hL2⟩ := hLL
              rw [HLe.out, ← hL1]
              exact hL2
            have k4 := big_no (a := X.length + 4 + Y.length + 1 + N.length) (by omega)
            have k5 := big_no (a := X.length + 4 + Y.length + 1 + N.length + 1) (by omega)
            have hN1 : (N == []) = false := beq_eq_false_iff_ne.2 hN0
            clear hLL hN hY hl hN0
            go_wp2_with (go_at_call 26; refine (HNm.out _ _ (by simp)).mono ?_; rintro e w3 ⟨rfl, b3⟩)
            have B3 := hideS (bthen (bal (bthen K3.out hbx.out)) b3)
            clear b3
            go_roundw
            case rel => exact ⟨i + 1, hil, congrArg Value.string HV.out, by go_num, B3⟩
            case measure => simp [intOf]; omega
        · obtain rfl : i = M := by omega
          have hin : ¬ ((i : Int) < (i : Int)) := by omega
          go_wp2_with fail
          go_roundw
          case rel => exact ⟨k + 1, by omega, by rw [HEk.out], by go_num, K3⟩
          case measure => simp [intOf]; omega
    · obtain rfl : ns = k := by omega
      have hkn : ¬ ((ns : Int) < (ns : Int)) := by omega
      have HZ0 : Hid (TZ 0 = TA ns) := HT.out.z0
      go_wp2_with fail
      clear p0 p1 p2
      have K0 := K1
      clear K1
      obtain ⟨wo, hwo⟩ : ∃ wo, wo = wr := ⟨_, rfl⟩
      simp only [← hwo] at K0 ⊢
      clear hwo
      go_loopw [3, 8] (fun x3 x8 wr => ∃ k : Nat, k ≤ nz ∧ x3 = .string ⟨(TZ k).toArray⟩ ∧ x8 = .int .i64 k ∧ Hid (Below W.heap.size W wr)) (fun x3 x8 _ => nz - (intOf x8).toNat)
      case atStart => exact ⟨0, Nat.zero_le _, by rw [HZ0.out], rfl, K0⟩
      case round =>
        obtain ⟨k, hk, rfl, rfl, K1⟩ := hrel
        obtain ⟨p0, p1, p2⟩ := cells3 (heap_on Q0.out K1.out)
        by_cases hlt : k < nz
        · rcases HZ1.out with h0 | ⟨b, off, hsa, hcs⟩
          · omega
          subst hsa
          have d0 := cell_on (hcs k hlt).1 K1.out
          have d1 := cell_on (hcs k hlt).2 K1.out
          have D1 := hideS (hcs k hlt).2
          obtain ⟨N, hN⟩ := by_of (znm k)
          have HV := hideS (zone_text hN (HT.out.e0 k))
          have hl := HT.out.le k 0 hlt (Nat.zero_le _)
          rw [HT.out.e0 k, hN] at hl
          simp at hl
          simp only [hN] at d0
          have hk0 : decide ((k : Int) < 0) = false := by simp
          have hkn : decide (nz ≤ k) = false := by simp; omega
          have hki : (k : Int) < (nz : Int) := by omega
          obtain ⟨X, hX⟩ : ∃ X, X = TZ k := ⟨_, rfl⟩
          rw [← hX] at HV hl
          simp only [← hX]
          have g1 := big_no (a := X.length + 5) (by omega)
          have g2 := big_no (a := X.length + 5 + N.length) (by omega)
          have g3 := big_no (a := X.length + 5 + N.length + 1) (by omega)
          clear hcs hN hX
          go_wp2_with fail
          rw [HV.out]
          obtain ⟨A, hA⟩ : ∃ A, A = ea k := ⟨_, rfl⟩
          obtain ⟨M, hM⟩ : ∃ M, M = zn k := ⟨_, rfl⟩
          obtain ⟨C, hC⟩ : ∃ C, C = ec k := ⟨_, rfl⟩
          have HRk := hideS (HE1.out k hlt)
          have HMk := HM2.out k hlt
          have HQk := hideS (HQ2.out k hlt)
          have HLk : Hid (∀ i, i ≤ zn k → (TE k i).length ≤ 1000000) := fun i hi => HT.out.le k i hlt hi
          have HTk : Hid (∀ i, TE k (i + 1) = TE k i ++ erLine (es k i)) := HT.out.e1 k
          have HEk : Hid (TE k (zn k) = TZ (k + 1)) := HT.out.e2 k
          rw [← hA, ← hM] at HRk
          simp only [← hA, ← hM, ← hC] at D1
          rw [← hM] at HMk HQk HLk HEk
          clear hA hM hC d0 d1 hl g1 g2 g3 HV p0 p1 p2
          obtain ⟨wo, hwo⟩ : ∃ wo, wo = wr := ⟨_, rfl⟩
          simp only [← hwo] at K1 ⊢
          clear hwo
          go_loopw [3, 9] (fun x3 x9 wr => ∃ i : Nat, i ≤ M ∧ x3 = .string ⟨(TE k i).toArray⟩ ∧ x9 = .int .i64 i ∧ Hid (Below W.heap.size W wr)) (fun x3 x9 _ => M - (intOf x9).toNat)
          case atStart => exact ⟨0, Nat.zero_le _, rfl, rfl, K1⟩
          case round =>
            obtain ⟨i, hi, rfl, rfl, K3⟩ := hrel
            obtain ⟨p0, p1, p2⟩ := cells3 (heap_on Q0.out K3.out)
            have d1 := cell_on D1.out K3.out
            by_cases hil : i < M
            · rcases HRk.out with h0 | ⟨rb, ro, hra, hrow⟩
              · omega
              subst hra
              obtain ⟨f0, f1, f2, f3, f4⟩ := hrow i hil
              have g0 := cell_on f0 K3.out
              have g1 := cell_on f1 K3.out
              have g2 := cell_on f2 K3.out
              have g3 := cell_on f3 K3.out
              have g4 := cell_on f4 K3.out
              obtain ⟨q1, q2, q3, q4⟩ := HQk.out i hil
              have HTi := hideS (HTk.out i)
              have hl := HLk.out (i + 1) hil
              obtain ⟨x, hx⟩ : ∃ x, x = es k i := ⟨_, rfl⟩
              rw [← hx] at g0 g1 g2 g3 g4 q1 q2 q3 q4 HTi
              rw [HTi.out] at hl
              obtain ⟨N, hN⟩ := by_of x.fm
              rw [hN] at g3
              obtain ⟨X, hX⟩ : ∃ X, X = TE k i := ⟨_, rfl⟩
              obtain ⟨Y, hY⟩ : ∃ Y, Y = numsB [x.std, x.set, x.sv] := ⟨_, rfl⟩
              obtain ⟨U, hU⟩ : ∃ U, U = numsB [x.un] := ⟨_, rfl⟩
              have HV := hideS (era_text hN hY hU (show TE k (i + 1) = X ++ erLine x by rw [hX]; exact HTi.out))
              have hlY : X.length + Y.length + N.length + U.length ≤ 1000000 := by
                unfold erLine at hl
                rw [← hX, ← hY, ← hU, hN] at hl
                simp at hl
                omega
              have HN1 : Hid (∀ (g : Nat) (v : World), v.heap[g]? = some (.cells #[.int .i64 x.std, .int .i64 x.set, .int .i64 x.sv] 3) → Calls Tryz.prog 26 #[.slice (some ⟨g, 0, none⟩) 3 3] v fun e w' => e = .returned (.string ⟨Y.toArray⟩) ∧ Below v.heap.size v w') := fun g v hg => by
                rw [hY]
                exact nums_h [x.std, x.set, x.sv] _ 3 g v hg rfl rfl (by simp) (by intro n hn; simp at hn; rcases hn with rfl | rfl | rfl <;> assumption)
              have HN2 : Hid (∀ (g : Nat) (v : World), v.heap[g]? = some (.cells #[.int .i64 x.un] 3) → Calls Tryz.prog 26 #[.slice (some ⟨g, 0, none⟩) 1 1] v fun e w' => e = .returned (.string ⟨U.toArray⟩) ∧ Below v.heap.size v w') := fun g v hg => by
                rw [hU]
                exact nums_h [x.un] _ 1 g v hg rfl rfl (by simp) (by intro n hn; simp at hn; subst hn; assumption)
              have hk0 : decide ((i : Int) < 0) = false := by simp
              have hkn : decide (M ≤ i) = false := by simp; omega
              have hki : (i : Int) < (M : Int) := by omega
              simp only [← hX]
              have k1 := big_no (a := X.length + 3) (by omega)
              have k2 := big_no (a := X.length + 3 + Y.length) (by omega)
              have k3 := big_no (a := X.length + 3 + Y.length + 1) (by omega)
              have k4 := big_no (a := X.length + 3 + Y.length + 1 + N.length) (by omega)
              have k5 := big_no (a := X.length + 3 + Y.length + 1 + N.length + U.length) (by omega)
              have k6 := big_no (a := X.length + 3 + Y.length + 1 + N.length + U.length + 1) (by omega)
              have hbx := hideS ((Below.refl _ wr).alloc (Nat.le_refl _) (.cells #[.int .i64 x.std, .int .i64 x.set, .int .i64 x.sv, .string ⟨N.toArray⟩, .int .i64 x.un] 67))
              have hnb : Hid ((wr.alloc (.cells #[.int .i64 x.std, .int .i64 x.set, .int .i64 x.sv, .string ⟨N.toArray⟩, .int .i64 x.un] 67)).heap[wr.heap.size]? = some (.cells #[.int .i64 x.std, .int .i64 x.set, .int .i64 x.sv, .string ⟨N.toArray⟩, .int .i64 x.un] 67)) := World.alloc_heap_new _ _
              obtain ⟨Wb, hWb⟩ : ∃ Wb, Wb = wr.alloc (.cells #[.int .i64 x.std, .int .i64 x.set, .int .i64 x.sv, .string ⟨N.toArray⟩, .int .i64 x.un] 67) := ⟨_, rfl⟩
              obtain ⟨g, hg⟩ : ∃ g, g = wr.heap.size := ⟨_, rfl⟩
              rw [← hWb] at hbx hnb
              rw [← hg] at hnb
              have KB := hideS (bthen K3.out hbx.out)
              clear hrow f0 f1 f2 f3 f4 q1 q2 q3 q4 hx hX hY hU hN hl
              go_upto_region 22 with fail
              simp only [← hWb, ← hg]
              clear hWb hg g0 g1 g2 g3 g4
              have KS : Hid (∀ v : World, Below Wb.heap.size Wb v → v.cell? ⟨g, 0, none⟩ = some (.int .i64 x.std) ∧ v.cell? ⟨g, 1, none⟩ = some (.int .i64 x.set) ∧ v.cell? ⟨g, 2, none⟩ = some (.int .i64 x.sv) ∧ v.cell? ⟨g, 3, none⟩ = some (.string ⟨N.toArray⟩) ∧ v.cell? ⟨g, 4, none⟩ = some (.int .i64 x.un)) := fun v hv => cells5 (heap_on hnb.out hv)
              have BR := (Below.refl Wb.heap.size Wb).drew
              have hA0 : Hid (∀ A : Obj, (Wb.alloc A).drew.heap[Wb.heap.size]? = some A) := fun A => World.alloc_heap_new Wb A
              have hA1 : Hid (∀ A B : Obj, ((Wb.alloc A).alloc B).drew.heap[Wb.heap.size]? = some A) := fun A B => show ((Wb.alloc A).alloc B).heap[Wb.heap.size]? = some A from heap_on (World.alloc_heap_new Wb A) ((Below.refl _ (Wb.alloc A)).alloc (Nat.le_refl _) B)
              have hA2 : Hid (∀ A B : Obj, ((Wb.alloc A).alloc B).drew.heap[Wb.heap.size + 1]? = some B) := fun A B => by
                have := World.alloc_heap_new (Wb.alloc A) B
                show ((Wb.alloc A).alloc B).heap[Wb.heap.size + 1]? = some B
                simpa using this
              refine wp_region_held_drew (S := fun v => v.cell? ⟨g, 0, none⟩ = some (.int .i64 x.std) ∧ v.cell? ⟨g, 1, none⟩ = some (.int .i64 x.set) ∧ v.cell? ⟨g, 2, none⟩ = some (.int .i64 x.sv) ∧ v.cell? ⟨g, 3, none⟩ = some (.string ⟨N.toArray⟩) ∧ v.cell? ⟨g, 4, none⟩ = some (.int .i64 x.un)) (by kernel_rfl) (KS.out _ BR) (fun hHeld => ?_)
              refine wpAnyH_take (i := 0) (v := ?va0o) rfl (by kernel_rfl) (by kernel_rfl) (by kernel_rfl) (fun _ _ _ h => h) (Or.inl ⟨by rfl, ?ya0o⟩) hHeld ?ra0o
              case ya0o => intro w hSw; (try dsimp only at hSw); obtain ⟨hS1, hS2, hS3, hS4, hS5⟩ := hSw; go_simp; (try with_reducible rfl)
              try simp only [Act.put, List.setIfInBounds_toArray, List.set_cons_zero, List.set_cons_succ]
              refine wpAnyH_take (i := 1) (v := ?va1o) rfl (by kernel_rfl) (by kernel_rfl) (by kernel_rfl) (fun _ _ _ h => h) (Or.inl ⟨by rfl, ?ya1o⟩) hHeld ?ra1o
              case ya1o => intro w hSw; (try dsimp only at hSw); obtain ⟨hS1, hS2, hS3, hS4, hS5⟩ := hSw; go_simp; (try with_reducible rfl)
              try simp only [Act.put, List.setIfInBounds_toArray, List.set_cons_zero, List.set_cons_succ]
              refine wpAnyH_take (i := 2) (v := ?va2o) rfl (by kernel_rfl) (by kernel_rfl) (by kernel_rfl) (fun _ _ _ h => h) (Or.inl ⟨by rfl, ?ya2o⟩) hHeld ?ra2o
              case ya2o => intro w hSw; (try dsimp only at hSw); obtain ⟨hS1, hS2, hS3, hS4, hS5⟩ := hSw; go_simp; (try with_reducible rfl)
              try simp only [Act.put, List.setIfInBounds_toArray, List.set_cons_zero, List.set_cons_succ]
              refine wpAnyH_take (i := 3) (v := ?va3o) rfl (by kernel_rfl) (by kernel_rfl) (by kernel_rfl) (fun _ _ _ h => h) (Or.inl ⟨by rfl, ?ya3o⟩) hHeld ?ra3o
              case ya3o => intro w hSw; (try dsimp only at hSw); obtain ⟨hS1, hS2, hS3, hS4, hS5⟩ := hSw; go_simp; (try with_reducible rfl)
              try simp only [Act.put, List.setIfInBounds_toArray, List.set_cons_zero, List.set_cons_succ]
              refine wpAnyH_take (i := 4) (v := ?va4o) rfl (by kernel_rfl) (by kernel_rfl) (by kernel_rfl) (fun _ _ _ h => h) (Or.inl ⟨by rfl, ?ya4o⟩) hHeld ?ra4o
              case ya4o => intro w hSw; (try dsimp only at hSw); obtain ⟨hS1, hS2, hS3, hS4, hS5⟩ := hSw; go_simp; (try with_reducible rfl)
              try simp only [Act.put, List.setIfInBounds_toArray, List.set_cons_zero, List.set_cons_succ]
              refine wpAnyH_take (i := 5) (v := ?va5o) rfl (by kernel_rfl) (by kernel_rfl) (by kernel_rfl) (fun _ _ _ h => h) (Or.inl ⟨by rfl, ?ya5o⟩) hHeld ?ra5o
              case ya5o => intro w hSw; (try dsimp only at hSw); obtain ⟨hS1, hS2, hS3, hS4, hS5⟩ := hSw; go_simp; (try with_reducible rfl)
              try simp only [Act.put, List.setIfInBounds_toArray, List.set_cons_zero, List.set_cons_succ]
              refine wpAnyH_take (i := 6) (v := ?va6o) rfl (by kernel_rfl) (by kernel_rfl) (by kernel_rfl) (fun _ _ _ h => h) (Or.inl ⟨by rfl, ?ya6o⟩) hHeld ?ra6o
              case ya6o => intro w hSw; (try dsimp only at hSw); obtain ⟨hS1, hS2, hS3, hS4, hS5⟩ := hSw; go_simp; (try with_reducible rfl)
              try simp only [Act.put, List.setIfInBounds_toArray, List.set_cons_zero, List.set_cons_succ]
              refine wpAnyH_take (i := 7) (v := ?va7o) rfl (by kernel_rfl) (by kernel_rfl) (by kernel_rfl) (fun _ _ _ h => h) (Or.inl ⟨by rfl, ?ya7o⟩) hHeld ?ra7o
              case ya7o => intro w hSw; (try dsimp only at hSw); obtain ⟨hS1, hS2, hS3, hS4, hS5⟩ := hSw; go_simp; (try with_reducible rfl)
              try simp only [Act.put, List.setIfInBounds_toArray, List.set_cons_zero, List.set_cons_succ]
              refine wpAnyH_take (i := 12) (v := ?va12o) rfl (by kernel_rfl) (by kernel_rfl) (by kernel_rfl) (fun _ _ _ h => h) (Or.inl ⟨by rfl, ?ya12o⟩) hHeld ?ra12o
              case ya12o => intro w hSw; (try dsimp only at hSw); obtain ⟨hS1, hS2, hS3, hS4, hS5⟩ := hSw; go_simp; (try with_reducible rfl)
              try simp only [Act.put, List.setIfInBounds_toArray, List.set_cons_zero, List.set_cons_succ]
              refine wpAnyH_take (i := 13) (v := ?va13o) rfl (by kernel_rfl) (by kernel_rfl) (by kernel_rfl) (fun _ _ _ h => h) (Or.inl ⟨by rfl, ?ya13o⟩) hHeld ?ra13o
              case ya13o => intro w hSw; (try dsimp only at hSw); obtain ⟨hS1, hS2, hS3, hS4, hS5⟩ := hSw; go_simp; (try with_reducible rfl)
              try simp only [Act.put, List.setIfInBounds_toArray, List.set_cons_zero, List.set_cons_succ]
              refine wpAnyH_take (i := 15) (v := ?va15o) rfl (by kernel_rfl) (by kernel_rfl) (by kernel_rfl) (fun _ _ _ h => h) (Or.inl ⟨by rfl, ?ya15o⟩) hHeld ?ra15o
              case ya15o => intro w hSw; (try dsimp only at hSw); obtain ⟨hS1, hS2, hS3, hS4, hS5⟩ := hSw; go_simp; (try with_reducible rfl)
              try simp only [Act.put, List.setIfInBounds_toArray, List.set_cons_zero, List.set_cons_succ]
              refine wpAnyH_take (i := 16) (v := ?va16o) rfl (by kernel_rfl) (by kernel_rfl) (by kernel_rfl) (fun _ _ _ h => h) (Or.inl ⟨by rfl, ?ya16o⟩) hHeld ?ra16o
              case ya16o => intro w hSw; (try dsimp only at hSw); obtain ⟨hS1, hS2, hS3, hS4, hS5⟩ := hSw; go_simp; (try with_reducible rfl)
              try simp only [Act.put, List.setIfInBounds_toArray, List.set_cons_zero, List.set_cons_succ]
              refine wpAnyH_ready (rs := [8, 17]) (by kernel_rfl) (by simp) ?_
              refine AllReadyH.cons (i := 8) rfl (fun K hK => ?b8) (AllReadyH.cons (i := 17) rfl (fun K hK => ?b17) AllReadyH.nil)
              case b8 =>
                go_simp
                refine hK.out _ _ ?s8a (fun hHeld => ?_)
                case s8a => exact KS.out _ (bal BR)
                clear hK K
                try simp only [Act.put, List.setIfInBounds_toArray, List.set_cons_zero, List.set_cons_succ]
                refine wpAnyH_ready (rs := [9, 17]) (by kernel_rfl) (by simp) ?_
                refine AllReadyH.cons (i := 9) rfl (fun K hK => ?c9) (AllReadyH.cons (i := 17) rfl (fun K hK => ?c17) AllReadyH.nil)
                case c9 =>
                  go_simp
                  refine (HN1.out _ _ (hA0.out _)).mono ?_
                  rintro e a2 ⟨rfl, hw6⟩
                  refine hK.out _ _ ?s9b (fun hHeld => ?_)
                  case s9b => exact KS.out _ (bthen (bal BR) hw6)
                  clear hK K
                  try simp only [Act.put, List.setIfInBounds_toArray, List.set_cons_zero, List.set_cons_succ]
                  refine wpAnyH_take (i := 10) (v := ?va10b) rfl (by kernel_rfl) (by kernel_rfl) (by kernel_rfl) (fun _ _ _ h => h) (Or.inl ⟨by rfl, ?ya10b⟩) hHeld ?ra10b
                  case ya10b => intro w hSw; (try dsimp only at hSw); obtain ⟨hS1, hS2, hS3, hS4, hS5⟩ := hSw; go_simp; (try with_reducible rfl)
                  try simp only [Act.put, List.setIfInBounds_toArray, List.set_cons_zero, List.set_cons_succ]
                  refine wpAnyH_take (i := 11) (v := ?va11b) rfl (by kernel_rfl) (by kernel_rfl) (by kernel_rfl) (fun _ _ _ h => h) (Or.inl ⟨by rfl, ?ya11b⟩) hHeld ?ra11b
                  case ya11b => intro w hSw; (try dsimp only at hSw); obtain ⟨hS1, hS2, hS3, hS4, hS5⟩ := hSw; go_simp; (try with_reducible rfl)
                  try simp only [Act.put, List.setIfInBounds_toArray, List.set_cons_zero, List.set_cons_succ]
                  refine wpAnyH_take (i := 14) (v := ?va14b) rfl (by kernel_rfl) (by kernel_rfl) (by kernel_rfl) (fun _ _ _ h => h) (Or.inl ⟨by rfl, ?ya14b⟩) hHeld ?ra14b
                  case ya14b => intro w hSw; (try dsimp only at hSw); obtain ⟨hS1, hS2, hS3, hS4, hS5⟩ := hSw; go_simp; (try with_reducible rfl)
                  try simp only [Act.put, List.setIfInBounds_toArray, List.set_cons_zero, List.set_cons_succ]
                  refine wpAnyH_ready (rs := [17]) (by kernel_rfl) (by simp) ?_
                  refine AllReadyH.cons (i := 17) rfl (fun K hK => ?_) AllReadyH.nil
                  go_simp
                  refine hK.out _ _ ?s17b (fun hHeld => ?_)
                  case s17b => exact KS.out _ (bal (bthen (bal BR) hw6))
                  clear hK K
                  try simp only [Act.put, List.setIfInBounds_toArray, List.set_cons_zero, List.set_cons_succ]
                  refine wpAnyH_ready (rs := [18]) (by kernel_rfl) (by simp) ?_
                  refine AllReadyH.cons (i := 18) rfl (fun K hK => ?_) AllReadyH.nil
                  go_simp
                  refine (HN2.out _ _ (World.alloc_heap_new a2 _)).mono ?_
                  rintro e a3 ⟨rfl, hw7⟩
                  refine hK.out _ _ ?s18b (fun hHeld => ?_)
                  case s18b => exact KS.out _ (bthen (bal (bthen (bal BR) hw6)) hw7)
                  clear hK K
                  try simp only [Act.put, List.setIfInBounds_toArray, List.set_cons_zero, List.set_cons_succ]
                  refine wpAnyH_take (i := 19) (v := ?va19b) rfl (by kernel_rfl) (by kernel_rfl) (by kernel_rfl) (fun _ _ _ h => h) (Or.inl ⟨by rfl, ?ya19b⟩) hHeld ?ra19b
                  case ya19b => intro w hSw; (try dsimp only at hSw); obtain ⟨hS1, hS2, hS3, hS4, hS5⟩ := hSw; go_simp; (try with_reducible rfl)
                  try simp only [Act.put, List.setIfInBounds_toArray, List.set_cons_zero, List.set_cons_succ]
                  refine wpAnyH_take (i := 20) (v := ?va20b) rfl (by kernel_rfl) (by kernel_rfl) (by kernel_rfl) (fun _ _ _ h => h) (Or.inl ⟨by rfl, ?ya20b⟩) hHeld ?ra20b
                  case ya20b => intro w hSw; (try dsimp only at hSw); obtain ⟨hS1, hS2, hS3, hS4, hS5⟩ := hSw; go_simp; (try with_reducible rfl)
                  try simp only [Act.put, List.setIfInBounds_toArray, List.set_cons_zero, List.set_cons_succ]
                  refine wpAnyH_take (i := 21) (v := ?va21b) rfl (by kernel_rfl) (by kernel_rfl) (by kernel_rfl) (fun _ _ _ h => h) (Or.inl ⟨by rfl, ?ya21b⟩) hHeld ?ra21b
                  case ya21b => intro w hSw; (try dsimp only at hSw); obtain ⟨hS1, hS2, hS3, hS4, hS5⟩ := hSw; go_simp; (try with_reducible rfl)
                  try simp only [Act.put, List.setIfInBounds_toArray, List.set_cons_zero, List.set_cons_succ]
                  refine wpAnyH_done (by kernel_rfl) ?_ _
                  go_wp2_with fail
                  have B5 := hideS (bthen KB.out (bthen (bal (bthen (bal BR) hw6)) hw7))
                  go_roundw
                  case rel => exact ⟨i + 1, hil, congrArg Value.string HV.out, by go_num, B5⟩
                  case measure => simp [intOf]; omega
                case c17 =>
                  go_simp
                  refine hK.out _ _ ?s17c (fun hHeld => ?_)
                  case s17c => exact KS.out _ (bal (bal BR))
                  clear hK K
                  try simp only [Act.put, List.setIfInBounds_toArray, List.set_cons_zero, List.set_cons_succ]
                  refine wpAnyH_ready (rs := [9]) (by kernel_rfl) (by simp) ?_
                  refine AllReadyH.cons (i := 9) rfl (fun K hK => ?_) AllReadyH.nil
                  go_simp
                  refine (HN1.out _ _ (hA1.out _ _)).mono ?_
                  rintro e a2 ⟨rfl, hw6⟩
                  refine hK.out _ _ ?s9c (fun hHeld => ?_)
                  case s9c => exact KS.out _ (bthen (bal (bal BR)) hw6)
                  clear hK K
                  try simp only [Act.put, List.setIfInBounds_toArray, List.set_cons_zero, List.set_cons_succ]
                  refine wpAnyH_take (i := 10) (v := ?va10c) rfl (by kernel_rfl) (by kernel_rfl) (by kernel_rfl) (fun _ _ _ h => h) (Or.inl ⟨by rfl, ?ya10c⟩) hHeld ?ra10c
                  case ya10c => intro w hSw; (try dsimp only at hSw); obtain ⟨hS1, hS2, hS3, hS4, hS5⟩ := hSw; go_simp; (try with_reducible rfl)
                  try simp only [Act.put, List.setIfInBounds_toArray, List.set_cons_zero, List.set_cons_succ]
                  refine wpAnyH_take (i := 11) (v := ?va11c) rfl (by kernel_rfl) (by kernel_rfl) (by kernel_rfl) (fun _ _ _ h => h) (Or.inl ⟨by rfl, ?ya11c⟩) hHeld ?ra11c
                  case ya11c => intro w hSw; (try dsimp only at hSw); obtain ⟨hS1, hS2, hS3, hS4, hS5⟩ := hSw; go_simp; (try with_reducible rfl)
                  try simp only [Act.put, List.setIfInBounds_toArray, List.set_cons_zero, List.set_cons_succ]
                  refine wpAnyH_take (i := 14) (v := ?va14c) rfl (by kernel_rfl) (by kernel_rfl) (by kernel_rfl) (fun _ _ _ h => h) (Or.inl ⟨by rfl, ?ya14c⟩) hHeld ?ra14c
                  case ya14c => intro w hSw; (try dsimp only at hSw); obtain ⟨hS1, hS2, hS3, hS4, hS5⟩ := hSw; go_simp; (try with_reducible rfl)
                  try simp only [Act.put, List.setIfInBounds_toArray, List.set_cons_zero, List.set_cons_succ]
                  refine wpAnyH_ready (rs := [18]) (by kernel_rfl) (by simp) ?_
                  refine AllReadyH.cons (i := 18) rfl (fun K hK => ?_) AllReadyH.nil
                  go_simp
                  refine (HN2.out _ _ (heap_on (hA2.out _ _) hw6)).mono ?_
                  rintro e a3 ⟨rfl, hw7⟩
                  refine hK.out _ _ ?s18c (fun hHeld => ?_)
                  case s18c => exact KS.out _ (bthen (bthen (bal (bal BR)) hw6) hw7)
                  clear hK K
                  try simp only [Act.put, List.setIfInBounds_toArray, List.set_cons_zero, List.set_cons_succ]
                  refine wpAnyH_take (i := 19) (v := ?va19c) rfl (by kernel_rfl) (by kernel_rfl) (by kernel_rfl) (fun _ _ _ h => h) (Or.inl ⟨by rfl, ?ya19c⟩) hHeld ?ra19c
                  case ya19c => intro w hSw; (try dsimp only at hSw); obtain ⟨hS1, hS2, hS3, hS4, hS5⟩ := hSw; go_simp; (try with_reducible rfl)
                  try simp only [Act.put, List.setIfInBounds_toArray, List.set_cons_zero, List.set_cons_succ]
                  refine wpAnyH_take (i := 20) (v := ?va20c) rfl (by kernel_rfl) (by kernel_rfl) (by kernel_rfl) (fun _ _ _ h => h) (Or.inl ⟨by rfl, ?ya20c⟩) hHeld ?ra20c
                  case ya20c => intro w hSw; (try dsimp only at hSw); obtain ⟨hS1, hS2, hS3, hS4, hS5⟩ := hSw; go_simp; (try with_reducible rfl)
                  try simp only [Act.put, List.setIfInBounds_toArray, List.set_cons_zero, List.set_cons_succ]
                  refine wpAnyH_take (i := 21) (v := ?va21c) rfl (by kernel_rfl) (by kernel_rfl) (by kernel_rfl) (fun _ _ _ h => h) (Or.inl ⟨by rfl, ?ya21c⟩) hHeld ?ra21c
                  case ya21c => intro w hSw; (try dsimp only at hSw); obtain ⟨hS1, hS2, hS3, hS4, hS5⟩ := hSw; go_simp; (try with_reducible rfl)
                  try simp only [Act.put, List.setIfInBounds_toArray, List.set_cons_zero, List.set_cons_succ]
                  refine wpAnyH_done (by kernel_rfl) ?_ _
                  go_wp2_with fail
                  have B5 := hideS (bthen KB.out (bthen (bthen (bal (bal BR)) hw6) hw7))
                  go_roundw
                  case rel => exact ⟨i + 1, hil, congrArg Value.string HV.out, by go_num, B5⟩
                  case measure => simp [intOf]; omega
              case b17 =>
                go_simp
                refine hK.out _ _ ?s17d (fun hHeld => ?_)
                case s17d => exact KS.out _ (bal BR)
                clear hK K
                try simp only [Act.put, List.setIfInBounds_toArray, List.set_cons_zero, List.set_cons_succ]
                refine wpAnyH_ready (rs := [8]) (by kernel_rfl) (by simp) ?_
                refine AllReadyH.cons (i := 8) rfl (fun K hK => ?_) AllReadyH.nil
                go_simp
                refine hK.out _ _ ?s8d (fun hHeld => ?_)
                case s8d => exact KS.out _ (bal (bal BR))
                clear hK K
                try simp only [Act.put, List.setIfInBounds_toArray, List.set_cons_zero, List.set_cons_succ]
                refine wpAnyH_ready (rs := [9]) (by kernel_rfl) (by simp) ?_
                refine AllReadyH.cons (i := 9) rfl (fun K hK => ?_) AllReadyH.nil
                go_simp
                refine (HN1.out _ _ (hA2.out _ _)).mono ?_
                rintro e a2 ⟨rfl, hw6⟩
                refine hK.out _ _ ?s9d (fun hHeld => ?_)
                case s9d => exact KS.out _ (bthen (bal (bal BR)) hw6)
                clear hK K
                try simp only [Act.put, List.setIfInBounds_toArray, List.set_cons_zero, List.set_cons_succ]
                refine wpAnyH_take (i := 10) (v := ?va10d) rfl (by kernel_rfl) (by kernel_rfl) (by kernel_rfl) (fun _ _ _ h => h) (Or.inl ⟨by rfl, ?ya10d⟩) hHeld ?ra10d
                case ya10d => intro w hSw; (try dsimp only at hSw); obtain ⟨hS1, hS2, hS3, hS4, hS5⟩ := hSw; go_simp; (try with_reducible rfl)
                try simp only [Act.put, List.setIfInBounds_toArray, List.set_cons_zero, List.set_cons_succ]
                refine wpAnyH_take (i := 11) (v := ?va11d) rfl (by kernel_rfl) (by kernel_rfl) (by kernel_rfl) (fun _ _ _ h => h) (Or.inl ⟨by rfl, ?ya11d⟩) hHeld ?ra11d
                case ya11d => intro w hSw; (try dsimp only at hSw); obtain ⟨hS1, hS2, hS3, hS4, hS5⟩ := hSw; go_simp; (try with_reducible rfl)
                try simp only [Act.put, List.setIfInBounds_toArray, List.set_cons_zero, List.set_cons_succ]
                refine wpAnyH_take (i := 14) (v := ?va14d) rfl (by kernel_rfl) (by kernel_rfl) (by kernel_rfl) (fun _ _ _ h => h) (Or.inl ⟨by rfl, ?ya14d⟩) hHeld ?ra14d
                case ya14d => intro w hSw; (try dsimp only at hSw); obtain ⟨hS1, hS2, hS3, hS4, hS5⟩ := hSw; go_simp; (try with_reducible rfl)
                try simp only [Act.put, List.setIfInBounds_toArray, List.set_cons_zero, List.set_cons_succ]
                refine wpAnyH_ready (rs := [18]) (by kernel_rfl) (by simp) ?_
                refine AllReadyH.cons (i := 18) rfl (fun K hK => ?_) AllReadyH.nil
                go_simp
                refine (HN2.out _ _ (heap_on (hA1.out _ _) hw6)).mono ?_
                rintro e a3 ⟨rfl, hw7⟩
                refine hK.out _ _ ?s18d (fun hHeld => ?_)
                case s18d => exact KS.out _ (bthen (bthen (bal (bal BR)) hw6) hw7)
                clear hK K
                try simp only [Act.put, List.setIfInBounds_toArray, List.set_cons_zero, List.set_cons_succ]
                refine wpAnyH_take (i := 19) (v := ?va19d) rfl (by kernel_rfl) (by kernel_rfl) (by kernel_rfl) (fun _ _ _ h => h) (Or.inl ⟨by rfl, ?ya19d⟩) hHeld ?ra19d
                case ya19d => intro w hSw; (try dsimp only at hSw); obtain ⟨hS1, hS2, hS3, hS4, hS5⟩ := hSw; go_simp; (try with_reducible rfl)
                try simp only [Act.put, List.setIfInBounds_toArray, List.set_cons_zero, List.set_cons_succ]
                refine wpAnyH_take (i := 20) (v := ?va20d) rfl (by kernel_rfl) (by kernel_rfl) (by kernel_rfl) (fun _ _ _ h => h) (Or.inl ⟨by rfl, ?ya20d⟩) hHeld ?ra20d
                case ya20d => intro w hSw; (try dsimp only at hSw); obtain ⟨hS1, hS2, hS3, hS4, hS5⟩ := hSw; go_simp; (try with_reducible rfl)
                try simp only [Act.put, List.setIfInBounds_toArray, List.set_cons_zero, List.set_cons_succ]
                refine wpAnyH_take (i := 21) (v := ?va21d) rfl (by kernel_rfl) (by kernel_rfl) (by kernel_rfl) (fun _ _ _ h => h) (Or.inl ⟨by rfl, ?ya21d⟩) hHeld ?ra21d
                case ya21d => intro w hSw; (try dsimp only at hSw); obtain ⟨hS1, hS2, hS3, hS4, hS5⟩ := hSw; go_simp; (try with_reducible rfl)
                try simp only [Act.put, List.setIfInBounds_toArray, List.set_cons_zero, List.set_cons_succ]
                refine wpAnyH_done (by kernel_rfl) ?_ _
                go_wp2_with fail
                have B5 := hideS (bthen KB.out (bthen (bthen (bal (bal BR)) hw6) hw7))
                go_roundw
                case rel => exact ⟨i + 1, hil, congrArg Value.string HV.out, by go_num, B5⟩
                case measure => simp [intOf]; omega
            · obtain rfl : i = M := by omega
              have hin : ¬ ((i : Int) < (i : Int)) := by omega
              go_wp2_with fail
              go_roundw
              case rel => exact ⟨k + 1, by omega, by rw [HEk.out], by go_num, K3⟩
              case measure => simp [intOf]; omega
        · obtain rfl : nz = k := by omega
          have hkn : ¬ ((nz : Int) < (nz : Int)) := by omega
          have HL0 : Hid (TL 0 = TZ nz) := HT.out.l0
          go_wp2_with fail
          clear p0 p1 p2
          have K0 := K1
          clear K1
          obtain ⟨wo, hwo⟩ : ∃ wo, wo = wr := ⟨_, rfl⟩
          simp only [← hwo] at K0 ⊢
          clear hwo
          go_loopw [3, 11] (fun x3 x11 wr => ∃ k : Nat, k ≤ nl ∧ x3 = .string ⟨(TL k).toArray⟩ ∧ x11 = .int .i64 k ∧ Hid (Below W.heap.size W wr)) (fun x3 x11 _ => nl - (intOf x11).toNat)
          case atStart => exact ⟨0, Nat.zero_le _, by rw [HL0.out], rfl, K0⟩
          case round =>
            obtain ⟨k, hk, rfl, rfl, K1⟩ := hrel
            obtain ⟨p0, p1, p2⟩ := cells3 (heap_on Q0.out K1.out)
            by_cases hlt : k < nl
            · rcases HL1.out with h0 | ⟨b, off, hsa, hcs⟩
              · omega
              subst hsa
              have d0 := cell_on (hcs k hlt).1 K1.out
              have d1 := cell_on (hcs k hlt).2 K1.out
              obtain ⟨N, hN⟩ := by_of (l1 k)
              obtain ⟨M, hM⟩ := by_of (l2 k)
              have HV := hideS (link_text hN hM (HT.out.l1 k))
              have hl := HT.out.ll (k + 1) hlt
              rw [HT.out.l1 k, hN, hM] at hl
              simp at hl
              simp only [hN] at d0
              simp only [hM] at d1
              have hk0 : decide ((k : Int) < 0) = false := by simp
              have hkn : decide (nl ≤ k) = false := by simp; omega
              have hki : (k : Int) < (nl : Int) := by omega
              obtain ⟨X, hX⟩ : ∃ X, X = TL k := ⟨_, rfl⟩
              rw [← hX] at HV hl
              simp only [← hX]
              have g1 := big_no (a := X.length + 5) (by omega)
              have g2 := big_no (a := X.length + 5 + N.length) (by omega)
              have g3 := big_no (a := X.length + 5 + N.length + 1) (by omega)
              have g4 := big_no (a := X.length + 5 + N.length + 1 + M.length) (by omega)
              have g5 := big_no (a := X.length + 5 + N.length + 1 + M.length + 1) (by omega)
              clear hcs hN hM hX hl
              go_wp2_with fail
              go_quiet (fail)
              go_wp2_with fail
              go_roundw
              case rel => exact ⟨k + 1, by omega, congrArg Value.string HV.out, by go_num, hideS (bdrewN K1.out _)⟩
              case measure => simp [intOf]; omega
            · obtain rfl : nl = k := by omega
              have hkn : ¬ ((nl : Int) < (nl : Int)) := by omega
              go_wp2_with fail
              go_ret
              exact ⟨rfl, HB.out.trans (K1.out.mono HB.out.size)⟩
/-- the texts of right data -/
theorem dt_text {D : Dt} (hc : chkE D = 0) : dtT D.ns D.nz D.nl (fun j => (D.ss j).nm) (fun j => (D.ss j).n) (fun j => (D.ss j).rs) (fun j => (D.zs j).nm) (fun j => (D.zs j).n) (fun j => (D.zs j).es) (fun j => (D.ls j).nm) (fun j => (D.ls j).tgt) (catJ (setB D)) (fun k i => catJ (setB D) k ++ setJ (D.ss k) i) (fun k => catJ (setB D) D.ns ++ catJ (zoneB D) k) (fun k i => catJ (setB D) D.ns ++ catJ (zoneB D) k ++ zoneJ (D.zs k) i) (fun k => catJ (setB D) D.ns ++ (catJ (zoneB D) D.nz ++ catJ (linkB D) k)) := by
  have hl := show_len hc
  unfold showD at hl
  simp only [List.length_append] at hl
  have hA : ∀ k, k ≤ D.ns → (catJ (setB D) k).length ≤ (catJ (setB D) D.ns).length := fun k hk => catJ_le _ hk
  have hZ : ∀ k, k ≤ D.nz → (catJ (zoneB D) k).length ≤ (catJ (zoneB D) D.nz).length := fun k hk => catJ_le _ hk
  have hL : ∀ k, k ≤ D.nl → (catJ (linkB D) k).length ≤ (catJ (linkB D) D.nl).length := fun k hk => catJ_le _ hk
  refine ⟨rfl, fun k => ?_, fun k i => ?_, fun k => (catJ_succ _ k).symm, ?_, fun k => ?_, fun k i => ?_, fun k => ?_, ?_, fun k => ?_, fun k hk => ?_, fun k i hk hi => ?_, fun k hk => ?_, fun k i hk hi => ?_, fun k hk => ?_⟩
  · congr 1
    simp [setJ, linesB, joinW]
  · rw [setJ_succ, ru_line, List.append_assoc]
  · simp [catJ]
  · congr 1
    simp [zoneJ, linesB, joinW]
  · rw [zoneJ_succ, er_line]
    simp only [List.append_assoc]
  · rw [catJ_succ, List.append_assoc]
  · simp [catJ]
  · rw [catJ_succ]
    simp [linkB, joinW]
  · have := hA k hk
    omega
  · have h1 := hA (k + 1) hk
    rw [catJ_succ, List.length_append] at h1
    have h2 := mono_len (J := setJ (D.ss k)) (fun k => ⟨_, setJ_succ _ k⟩) hi
    have h3 : (setB D k).length = (setJ (D.ss k) (D.ss k).n).length := rfl
    rw [List.length_append]
    omega
  · have := hZ k hk
    rw [List.length_append]
    omega
  · have h1 := hZ (k + 1) hk
    rw [catJ_succ, List.length_append] at h1
    have h2 := mono_len (J := zoneJ (D.zs k)) (fun k => ⟨_, zoneJ_succ _ k⟩) hi
    have h3 : (zoneB D k).length = (zoneJ (D.zs k) (D.zs k).n).length := rfl
    rw [List.length_append, List.length_append]
    omega
  · have := hL k hk
    rw [List.length_append, List.length_append]
    omega
/-- the document's own shows right data as the program does -/
theorem DataText_c (D : Dt) (w : World) (hD : DAt w D) (hc : chkE D = 0) : Calls Tryz.prog 7 #[D.v] w fun e w' => e = .returned (.string ⟨(showD D).toArray⟩) ∧ Below w.heap.size w w' := by
  obtain ⟨⟨h1, h2, h3⟩, _⟩ := chk_all hc
  exact DataText_x D.sa D.za D.la D.ns D.nz D.nl D.sc D.zc D.lc (fun j => (D.ss j).nm) (fun j => (D.ss j).n) (fun j => (D.ss j).a) (fun j => (D.ss j).c) (fun j => (D.ss j).rs) (fun j => (D.zs j).nm) (fun j => (D.zs j).n) (fun j => (D.zs j).a) (fun j => (D.zs j).c) (fun j => (D.zs j).es) (fun j => (D.ls j).nm) (fun j => (D.ls j).tgt) w hD.sets hD.rules hD.zones hD.eras hD.links (by omega) (by omega) (by omega) (fun j hj => by have := h2 j hj; omega) (fun j hj => by have := h3 j hj; omega) (fun j hj i hi => rule_small (chk_rule hc hj hi)) (fun j hj i hi => era_small hc hj hi) _ _ _ _ _ (dt_text hc)
end Go.Proofs.YtbpdbggojgijiaaGreatDoor.Src
