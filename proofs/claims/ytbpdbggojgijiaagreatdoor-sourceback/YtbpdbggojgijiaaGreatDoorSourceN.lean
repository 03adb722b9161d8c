/- A line is taken: a set. -/
import Derived.Test.YtbpdbggojgijiaaGreatDoorSourceL
import Derived.Test.YtbpdbggojgijiaaGreatDoorOwnDA
import Derived.Test.YtbpdbggojgijiaaGreatDoorLastOpB
namespace Go.Proofs.YtbpdbggojgijiaaGreatDoor.Src
open Go Go.RowKit Go.Maps
set_option linter.unusedVariables false
set_option linter.unusedSimpArgs false

/-- all blocks but those of some types are as they were -/
def KT (ts : List TypeId) (w w' : World) : Prop := ∀ (b : Nat) (cs : Array Value) (ty : TypeId) (fr : Nat × Nat), w.heap[b]? = some (.cells cs ty fr) → ty ∉ ts → w'.heap[b]? = some (.cells cs ty fr)
theorem KT.trans {ts : List TypeId} {a b c : World} (h : KT ts a b) (k : KT ts b c) : KT ts a c := fun x cs ty fr hx h1 => k x cs ty fr (h x cs ty fr hx h1) h1
theorem KT.refl (ts : List TypeId) (a : World) : KT ts a a := fun x cs ty fr hx h1 => hx
theorem kt_on {ts : List TypeId} {w w' : World} (h : Below w.heap.size w w') : KT ts w w' := fun b cs ty fr hb _ => heap_on hb h
theorem kt_bq {ts : List TypeId} {q : Nat} {l : By} {w w' : World} (h : Bq q w w') (hq : RsA q l w) (ht : 96 ∈ ts) : KT ts w w' := fun b cs ty fr hb h1 => by
  refine (h.block b (Array.getElem?_eq_some_iff.1 hb).1 fun e => ?_).trans hb
  subst e
  unfold RsA at hq
  rw [hb] at hq
  simp at hq
  exact h1 (hq.2.1 ▸ ht)
theorem kt_set {ts : List TypeId} {w : World} {b : Nat} {cs : Array Value} {t : TypeId} {fr : Nat × Nat} (h : w.heap[b]? = some (.cells cs t fr)) (ht : t ∈ ts) (o : Nat) (u : Value) : KT ts w (w.setCell ⟨b, o, none⟩ u) := fun x cs' ty fr' hx h1 => by
  by_cases e : x = b
  · subst e
    rw [h] at hx
    simp at hx
    exact absurd (hx.2.1 ▸ ht) h1
  · exact (Below.heap_setCell _ _ _ _ e).trans hx
theorem kt_b {ts : List TypeId} {t : TypeId} {w w' : World} (h : KeptB t w w') (ht : t ∈ ts) : KT ts w w' := fun b cs ty fr hb h1 => h b cs ty fr hb (fun e => h1 (e ▸ ht))
theorem kt_own {ts : List TypeId} {e : TypeId} {w w' : World} {base S n : Nat} {v : Value} {xs : List Value} (hk : KT ts w w') (h : w.ownsRow base e S v n xs) (he : e ∉ ts) : w'.ownsRow base e S v n xs :=
  ⟨h.1, h.2.imp id fun ⟨g, cap, cur, h1, h2, h3, h4⟩ => ⟨g, cap, cur, h1, h2, hk _ _ _ _ h3 he, h4⟩⟩
theorem ownS_sl {w : World} {B : Nat} {e : TypeId} {S n : Nat} {v : Value} {xs : List Value} (h : w.ownsRow B e S v n xs) : ∃ a c, v = .slice a n c := by
  rcases h.2 with ⟨rfl, rfl⟩ | ⟨g, cap, cur, rfl, _⟩
  · exact ⟨_, _, rfl⟩
  · exact ⟨_, _, rfl⟩
/-- one struct of two cells more -/
theorem more2 {P : Program} (U : World) {ops : Array Oper} {o : Oper} {a : Act} {K : Act → World → Prop} {Q : Exit → Act → World → Prop} {E : Prop} (hgd : o.guard = none) (s x : Operand) (t : TypeId)
    (ho : o.op = .call { callee := .builtin .append, args := #[s, x], argTypes := #[t, t] })
    (base : Nat) (e : TypeId) (i : TypeInfo) (z : Value) (bytes : Nat) (ht : P.underlying t = some (.slice e)) (hi : P.info? e = some i) (hz : i.zero = some z)
    (hsize : i.size = 2) (hby : i.bytes = bytes) (hb4 : bytes ≤ 40) (hzs : z.cells.size = 2)
    (v : Value) (n : Nat) (xs : List Value) (hs : a.eval s = v) (hown : U.ownsRow base e 2 v n xs) (g : Nat) (x1 x2 : Value) (hx : a.eval x = .slice (some ⟨g, 0, none⟩) 1 1) (hg : U.heap[g]? = some (.cells #[x1, x2] e)) (o1 : x1.oneCell' = true) (o2 : x2.oneCell' = true) (hn : n ≤ 1000000) (hbase : base ≤ U.heap.size)
    (h : ∀ a2 c2 w2, Hid (w2.ownsRow base e 2 (.slice a2 (n + 1) c2) (n + 1) (xs ++ [x1, x2])) → Hid (KeptB e U w2) → Hid (Below base U w2) → K (a.put o.dst (.slice a2 (n + 1) c2)) w2) :
    if Region.wanted o (yielded ops a.tmps) = true then Oper.wp P o a U K Q else E := by
  have hbb : (n + 1) * bytes ≤ 1000001 * 40 := Nat.mul_le_mul (by omega) hb4
  refine step_append_row U hgd s x t ho base e i z 2 bytes ht hi hz hsize hby hzs (by decide) v n xs hs hown (some ⟨g, 0, none⟩) 1 1 [x1, x2] hx rfl (.inr ⟨_, rfl, World.news_of_block hg⟩) (by intro u hu; simp at hu; rcases hu with rfl | rfl; exact o1; exact o2) (by unfold maxLen; omega) (by omega) hbase ?_
  intro v2 w2 k1 k2 _
  obtain ⟨a2, c2, rfl⟩ := ownS_sl k1
  exact h a2 c2 w2 k1 (keptB_grown hown k2) ((Below.refl base U).grown k2 hbase fun k hk => (hown.lt k hk).1)
theorem infoS_set : (Tryz.prog.info? 47).map (fun i => (i.zero, i.size, i.bytes)) = some (some (.agg #[.string ⟨#[]⟩, .slice none 0 0]), 2, 40) := by kernel_rfl
set_option maxHeartbeats 8000000 in
set_option maxRecDepth 100000 in
theorem take_set_c (B db : Nat) (l : By) (w : World) (s1 : Option Addr) (n c1 : Nat) (v2 v3 : Value) (xs : List Value) (hd : w.heap[db]? = some (.cells #[.slice s1 n c1, v2, v3] 26)) (hB : B ≤ w.heap.size) (hX : ∀ v : World, Below B w v → EVs v) (hBd : B ≤ db) (ho : w.ownsRow B 47 2 (.slice s1 n c1) n xs) (hn : n ≤ 1000000) (hl : l.length < 4294967281) (hw : hdW l = wSet) :
    Calls Tryz.prog 46 #[.pointer (some ⟨db, 0, none⟩), .agg #[.string ⟨l.toArray⟩]] w fun e w' => e = .returned (.tuple #[]) ∧ ∃ a2 c2, w'.heap[db]? = some (.cells #[.slice a2 (n + 1) c2, v2, v3] 26) ∧ w'.ownsRow B 47 2 (.slice a2 (n + 1) c2) (n + 1) (xs ++ [.string ⟨(wN 1 l).toArray⟩, .slice none 0 0]) ∧ Below B w w' ∧ KT [47, 26, 96] w w' := by
  have hq := (Below.refl _ w).alloc (Nat.le_refl _) (.cells #[.string ⟨l.toArray⟩] 96)
  have hr : RsA w.heap.size l (w.alloc (.cells #[.string ⟨l.toArray⟩] 96)) := World.alloc_heap_new _ _
  have hdl : db < w.heap.size := (Array.getElem?_eq_some_iff.1 hd).1
  have hbq : Below B w (w.alloc (.cells #[.string ⟨l.toArray⟩] 96)) := hq.mono hB
  have HC := hideS (rtext_c w.heap.size l _ hr (hX _ hbq).2.2 hl)
  rw [hw] at HC
  obtain ⟨T, hT⟩ : ∃ T : By, T = wN 1 l := ⟨_, rfl⟩
  have HC2 : Hid (∀ v : World, RsA w.heap.size (tlW l) v → Below B w v → Calls Tryz.prog 71 #[.pointer (some ⟨w.heap.size, 0, none⟩)] v fun e w' => e = .returned (.string ⟨T.toArray⟩) ∧ RsA w.heap.size (tlW (tlW l)) w' ∧ Bq w.heap.size v w') := fun v hv hb => by
    rw [hT]
    exact rtext_c w.heap.size (tlW l) v hv (hX v hb).2.2 (by have := tlW_len l; omega)
  have H0 : Hid (w.heap[db]? = some (.cells #[.slice s1 n c1, v2, v3] 26)) := hd
  have HO := hideS ho
  have HQ := hideS hq
  have HBQ := hideS hbq
  have HR := hideS hr
  rw [← hT]
  clear hd hX ho hw hT hq hbq hr
  go_enter Tryz.func46, Tryz.ntmps46
  go_wp2_with (go_at_call 71; refine HC.out.mono ?_; rintro e v1 ⟨rfl, r1, b1⟩; refine unhid ?_)
  have R1 := hideS r1
  have B1 := hideS b1
  clear r1 b1 HC
  refine hideS ?_
  go_upto_region 3 with fail
  have hsz1 : w.heap.size + 1 ≤ v1.heap.size := by have := B1.out.size; simpa using this
  have D1 : Hid (v1.heap[db]? = some (.cells #[.slice s1 n c1, v2, v3] 26)) := (B1.out.block db (by simp; omega) (by omega)).trans (heap_on H0.out HQ.out)
  have W1 : Hid (Below B w v1) := HBQ.out.trans (B1.out.below (by omega) (by simp; omega))
  have O1 : Hid (v1.ownsRow B 47 2 (.slice s1 n c1) n xs) := kt_own (ts := [96]) ((kt_on HQ.out).trans (kt_bq B1.out HR.out (by decide))) HO.out (by decide)
  have K1 : Hid (KT [47, 26, 96] w v1) := (kt_on HQ.out).trans (kt_bq B1.out HR.out (by decide))
  obtain ⟨i2, hi2, hx0, hx1, hx2⟩ := info_parts infoS_set
  have hS0 : Hid (∀ v : World, v.heap[db]? = some (.cells #[.slice s1 n c1, v2, v3] 26) → v.cell? ⟨db, 0, none⟩ = some (.slice s1 n c1)) := fun v hv => (cells3 hv).1
  refine region_last2 (S := fun v => v.cell? ⟨db, 0, none⟩ = some (.slice s1 n c1)) (by kernel_rfl) (by kernel_rfl) (hS0.out v1.drew D1.out) (fun hHeld => ?_)
  refine wpAnyH_take (i := 0) (v := ?va0) rfl (by kernel_rfl) (by kernel_rfl) (by kernel_rfl) (fun _ _ _ h => h) (Or.inl ⟨by rfl, ?ya0⟩) hHeld ?ra0
  case ya0 => intro w hSw; (try dsimp only at hSw); go_simp; (try with_reducible rfl)
  try simp only [Act.put, List.setIfInBounds_toArray, List.set_cons_zero, List.set_cons_succ]
  refine wpAnyH_take (i := 1) (v := ?va1) rfl (by kernel_rfl) (by kernel_rfl) (by kernel_rfl) (fun _ _ _ h => h) (Or.inl ⟨by rfl, ?ya1⟩) hHeld ?ra1
  case ya1 => intro w hSw; (try dsimp only at hSw); go_simp; (try with_reducible rfl)
  try simp only [Act.put, List.setIfInBounds_toArray, List.set_cons_zero, List.set_cons_succ]
  refine wpAnyH_take (i := 2) (v := ?va2) rfl (by kernel_rfl) (by kernel_rfl) (by kernel_rfl) (fun _ _ _ h => h) (Or.inl ⟨by rfl, ?ya2⟩) hHeld ?ra2
  case ya2 => intro w hSw; (try dsimp only at hSw); go_simp; (try with_reducible rfl)
  try simp only [Act.put, List.setIfInBounds_toArray, List.set_cons_zero, List.set_cons_succ]
  refine wpAnyH_take (i := 3) (v := ?va3) rfl (by kernel_rfl) (by kernel_rfl) (by kernel_rfl) (fun _ _ _ h => h) (Or.inl ⟨by rfl, ?ya3⟩) hHeld ?ra3
  case ya3 => intro w hSw; (try dsimp only at hSw); go_simp; (try with_reducible rfl)
  try simp only [Act.put, List.setIfInBounds_toArray, List.set_cons_zero, List.set_cons_succ]
  refine wpAnyH_take (i := 4) (v := ?va4) rfl (by kernel_rfl) (by kernel_rfl) (by kernel_rfl) (fun _ _ _ h => h) (Or.inl ⟨by rfl, ?ya4⟩) hHeld ?ra4
  case ya4 => intro w hSw; (try dsimp only at hSw); go_simp; (try with_reducible rfl)
  try simp only [Act.put, List.setIfInBounds_toArray, List.set_cons_zero, List.set_cons_succ]
  refine wpAnyH_ready (rs := [5]) (by kernel_rfl) (by simp) ?_
  refine AllReadyH.cons (i := 5) rfl (fun K hK => ?_) AllReadyH.nil
  go_simp
  refine (HC2.out _ (by exact R1.out) (by exact W1.out.drew)).mono ?_
  rintro e u2 ⟨rfl, r2, b2⟩
  have D2 : Hid (u2.heap[db]? = some (.cells #[.slice s1 n c1, v2, v3] 26)) := (b2.block db (by simp; omega) (by omega)).trans D1.out
  have W2 : Hid (Below B w u2) := W1.out.drew.trans (b2.below (by omega) (by simp; omega))
  have K2 : Hid (KT [47, 26, 96] v1.drew u2) := kt_bq b2 R1.out (by decide)
  have O2 : Hid (u2.ownsRow B 47 2 (.slice s1 n c1) n xs) := kt_own (ts := [96]) (kt_bq b2 R1.out (by decide)) (show v1.drew.ownsRow B 47 2 (.slice s1 n c1) n xs from O1.out) (by decide)
  refine hK.out _ _ ?s5 (fun hHeld => ?_)
  case s5 => exact hS0.out _ D2.out
  clear hK K
  try simp only [Act.put, List.setIfInBounds_toArray, List.set_cons_zero, List.set_cons_succ]
  refine wpAnyH_take (i := 6) (v := ?va6) rfl (by kernel_rfl) (by kernel_rfl) (by kernel_rfl) (fun _ _ _ h => h) (Or.inl ⟨by rfl, ?ya6⟩) hHeld ?ra6
  case ya6 => intro w hSw; (try dsimp only at hSw); go_simp; (try with_reducible rfl)
  try simp only [Act.put, List.setIfInBounds_toArray, List.set_cons_zero, List.set_cons_succ]
  refine wpAnyH_ready (rs := [7]) (by kernel_rfl) (by simp) ?_
  refine AllReadyH.cons (i := 7) rfl (fun K hK => ?_) AllReadyH.nil
  go_simp
  have ba := (Below.refl _ u2).alloc (Nat.le_refl _) (.cells #[.string ⟨T.toArray⟩, .slice none 0 0] 47)
  have D3 := hideS (heap_on D2.out ba)
  have W3 : Hid (Below B w (u2.alloc (.cells #[.string ⟨T.toArray⟩, .slice none 0 0] 47))) := W2.out.trans (ba.mono (by have := W2.out.size; omega))
  have O3 := hideS (own_on O2.out ba)
  have K3 : Hid (KT [47, 26, 96] u2 (u2.alloc (.cells #[.string ⟨T.toArray⟩, .slice none 0 0] 47))) := kt_on ba
  clear ba
  refine hK.out _ _ ?s7 (fun hHeld => ?_)
  case s7 => exact hS0.out _ D3.out
  clear hK K
  try simp only [Act.put, List.setIfInBounds_toArray, List.set_cons_zero, List.set_cons_succ]
  refine wpAnyH_ready (rs := [8]) (by kernel_rfl) (by simp) ?_
  refine AllReadyH.cons (i := 8) rfl (fun K hK => ?_) AllReadyH.nil
  refine more2 _ rfl _ _ 22 rfl B 47 i2 _ 40 Tryz.underlying22 hi2 hx0 hx1 hx2 (by decide) rfl _ n xs rfl O3.out _ (.string ⟨T.toArray⟩) (.slice none 0 0) rfl (World.alloc_heap_new u2 _) rfl rfl hn (by have := W2.out.size; simp; omega) ?_
  intro a2 c2 u4 O4 K4 B4
  have D4 : Hid (u4.heap[db]? = some (.cells #[.slice s1 n c1, v2, v3] 26)) := K4.out _ _ _ _ D3.out (by decide)
  have W4 := hideS (W3.out.trans B4.out)
  have K5 : Hid (KT [47, 26, 96] w u4) := ((K1.out.trans (b := v1) (KT.trans (b := u2) K2.out K3.out))).trans (kt_b K4.out (by decide))
  refine hK.out _ _ ?s8 (fun hHeld => ?_)
  case s8 => exact hS0.out _ D4.out
  clear hK K
  try simp only [Act.put, List.setIfInBounds_toArray, List.set_cons_zero, List.set_cons_succ]
  refine wpAnyH_take (i := 9) (v := ?va9) rfl (by kernel_rfl) (by kernel_rfl) (by kernel_rfl) (fun _ _ _ h => h) (Or.inl ⟨by rfl, ?ya9⟩) hHeld ?ra9
  case ya9 => intro w hSw; (try dsimp only at hSw); go_simp; (try with_reducible rfl)
  try simp only [Act.put, List.setIfInBounds_toArray, List.set_cons_zero, List.set_cons_succ]
  refine wpAnyH_take (i := 10) (v := ?va10) rfl (by kernel_rfl) (by kernel_rfl) (by kernel_rfl) (fun _ _ _ h => h) (Or.inl ⟨by rfl, ?ya10⟩) hHeld ?ra10
  case ya10 => intro w hSw; (try dsimp only at hSw); go_simp; (try with_reducible rfl)
  try simp only [Act.put, List.setIfInBounds_toArray, List.set_cons_zero, List.set_cons_succ]
  refine wpAnyH_done (by kernel_rfl) ?_ _
  have ow := (cells3 D4.out).1
  have of : u4.frozen? ⟨db, 0, none⟩ = false := by simp [World.frozen?, D4.out]
  refine qlast_n ?_
  refine wpOp_step rfl (fun K hK => ?_)
  go_simp
  refine hK _ _ ?_
  clear hK K
  go_wp2_with fail
  go_end0
  have KD : KT [26] u4 (u4.setCell ⟨db, 0, none⟩ (.slice a2 (n + 1) c2)) := kt_set D4.out (by decide) _ _
  refine ⟨rfl, a2, c2, ?_, kt_own KD O4.out (by decide), W4.out.setCell (p := ⟨db, 0, none⟩) hBd _, K5.out.trans (kt_set D4.out (by decide) _ _)⟩
  simp [World.setCell, Array.getElem?_modify, D4.out]
end Go.Proofs.YtbpdbggojgijiaaGreatDoor.Src
