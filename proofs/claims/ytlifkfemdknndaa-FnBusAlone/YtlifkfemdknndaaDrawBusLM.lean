/-
  DrawBusOk and DrawBusAlone of the model.
-/
import Derived.Test.YtlifkfemdknndaaDrawBusM
import Derived.Test.YtlifkfemdknndaaMapDM
import Derived.Test.YtlifkfemdknndaaDrawReqB
/-
  l20BusOr of the model: whatever the code, a bus, or what is nearly one.
-/
namespace Go.Proofs.Ytlifkfemdknndaa
open Go.RowKit
set_option linter.unusedSimpArgs false
set_option linter.unusedVariables false

/-- what is asked is not too much -/
def Psz (r : Req) : Prop := r.data.length ≤ 10 ∧ r.lanes.length ≤ 10
theorem reqD_sz : ReqD Psz := fun B p w h hp => (l20Req_any B p 99999 w h hp (by omega) (by omega)).mono (by
  rintro e w' ⟨v, rfl, r, pd, cd, pl, cl, p', rfl, hR, z1, z2, hr, hq, hK, hd, hl⟩
  exact ⟨r, pd, cd, pl, cl, p', rfl, hR, hr, hq, hK, hd, hl, z1, z2⟩)
theorem holdD_sz : HoldD Psz := fun _ _ _ => ⟨Nat.zero_le _, Nat.zero_le _⟩

theorem sum_le {α : Type} {f : α → Nat} {k : Nat} : ∀ {l : List α}, (∀ x ∈ l, f x ≤ k) → (l.map f).sum ≤ l.length * k
  | [], _ => by simp
  | x :: l, h => by
    have ih := sum_le (l := l) (fun y hy => h y (List.mem_cons_of_mem _ hy))
    have h0 := h x (List.mem_cons_self ..)
    simp only [List.map_cons, List.sum_cons, List.length_cons, Nat.succ_mul]
    omega
/-- not too much in all -/
def BSz (c : ((Lst (Int × Int × Int × Bool)) × (Lst Int) × (Lst (Lst (Int × Int × Int × Int × Bool × (Lst Int) × (Lst Int)))))) : Prop := c.1.l.length ≤ 7 ∧ c.2.1.l.length ≤ 4 ∧ c.2.2.l.length ≤ 3 ∧ ∀ x ∈ c.2.2.l, x.l.length ≤ 13 ∧ ∀ q ∈ x.l, Psz (reqOf (yReqReq.pl q))
theorem BSz.size {c : ((Lst (Int × Int × Int × Bool)) × (Lst Int) × (Lst (Lst (Int × Int × Int × Int × Bool × (Lst Int) × (Lst Int)))))} (h : BSz c) : yBusCfg.size c ≤ 1000 := by
  obtain ⟨m, la, ps⟩ := c
  obtain ⟨h1, h2, h3, h4⟩ := h
  simp only at h1 h2 h3 h4
  have e : yBusCfg.size (m, la, ps) = (m.l.length + (m.l.map yMapRange.size).sum) + (yI.size la + (ps.l.length + (ps.l.map yReqReqS.size).sum)) := rfl
  have em : (m.l.map yMapRange.size).sum ≤ m.l.length * 0 := sum_le (fun x _ => Nat.le_refl _)
  have ep : (ps.l.map yReqReqS.size).sum ≤ ps.l.length * 273 := sum_le (fun x hx => by
    obtain ⟨g1, g2⟩ := h4 x hx
    have e1 : yReqReqS.size x = x.l.length + (x.l.map yReqReq.size).sum := rfl
    have e2 : (x.l.map yReqReq.size).sum ≤ x.l.length * 20 := sum_le (fun q hq => by
      have g3 := g2 q hq
      rw [req_plain] at g3
      obtain ⟨g4, g5⟩ := g3
      simp only at g4 g5
      have e3 : yReqReq.size q = 0 + (0 + (0 + (0 + (0 + (yI.size q.2.2.2.2.2.1 + yI.size q.2.2.2.2.2.2))))) := rfl
      rw [e3, yI_size, yI_size]
      omega)
    rw [e1]
    have := Nat.mul_le_mul_right 20 g1
    omega)
  rw [e, yI_size]
  have := Nat.mul_le_mul_right 273 h3
  omega

/-- a bus, in its box -/
def BoS (B R X p : Nat) (w0 : World) (wx : World) : Prop := ∃ (m : Lst (Int × Int × Int × Bool)) (la : Lst Int) (ps : Lst (Lst QT')) (q : Nat), wx.heap[X]? = some (.cells #[.slice m.p m.l.length m.c, .slice la.p la.l.length la.c, .slice ps.p ps.l.length ps.c] 27 (0, 0)) ∧ wx.heap[R]? = some (.cells #[.slice none 0 0, .slice none 0 0, .slice none 0 0] 27 (0, 0)) ∧ yBusCfg.rd wx (m, la, ps) ∧ BSz (m, la, ps) ∧ q ≤ p ∧ Rd wx B q ∧ Keep B w0 wx ∧ (∀ b ∈ yBusCfg.foot (m, la, ps), R < b)
theorem bus_foot (m : Lst (Int × Int × Int × Bool)) (la : Lst Int) (ps : Lst (Lst QT')) : yBusCfg.foot (m, la, ps) = yMapRangeS.foot m ++ (yI.foot la ++ yReqReqSS.foot ps) := rfl
theorem rows_foot {g c : Nat} {zs : List (Lst QT')} {off : Nat} : ∀ b ∈ yReqReqSS.foot ⟨some ⟨g, off, none⟩, c, zs⟩, b = g ∨ ∃ x ∈ zs, b ∈ yReqReqS.foot x := by
  intro b hb
  rcases List.mem_append.1 hb with hb | hb
  · obtain ⟨_, y, e, e'⟩ := blk_mem hb
    cases e; exact .inl e'.symm
  · obtain ⟨x, hx, hm⟩ := List.mem_flatMap.1 hb
    exact .inr ⟨x, hx, hm⟩
theorem rows_rd {w : World} {g c : Nat} {zs : List (Lst QT')} (hO : ORow 31 1 w g c zs.length (zs.flatMap yReqReqS.cells)) (hc : c ≤ maxLen) (hz : ∀ x ∈ zs, yReqReqS.rd w x) : yReqReqSS.rd w ⟨some ⟨g, 0, none⟩, c, zs⟩ := by
  unfold maxLen at hc
  refine ⟨by obtain ⟨_, _, _, h, _⟩ := hO; exact h, hc, .inr ⟨g, 0, rfl, hO.lt, fun k hk j v hv => ?_⟩, hz⟩
  have hk' : k < zs.length := hk
  have hj : j = 0 := by have := (List.getElem?_eq_some_iff.1 hv).1; rw [yReqReqS_law.len] at this; have e : yReqReqS.sz = 1 := rfl; omega
  subst hj
  obtain ⟨cur, c1, c2, c3, c4, c5⟩ := hO.cur
  show w.cell? ⟨g, 0 + k * 1 + 0, none⟩ = some v
  rw [Nat.zero_add, Nat.add_zero, Nat.mul_one, heap_cell c1, c5 _ (by omega)]
  have := flat_get (s := 1) (fun a => yReqReqS_law.len a) zs k 0 hk' (by omega)
  rw [Nat.mul_one, Nat.add_zero] at this
  rw [this]; exact hv
theorem row_rd {α β : Type} {K : Knd α β} (hK : KLaw K) {E : Nat} {w : World} {g c : Nat} {xs : List α} (hO : ORow E K.sz w g c xs.length (xs.flatMap K.cells)) (hc : c ≤ maxLen) (hz : ∀ x ∈ xs, K.rd w x) : (gLst E K).rd w ⟨some ⟨g, 0, none⟩, c, xs⟩ := by
  unfold maxLen at hc
  refine ⟨by obtain ⟨_, _, _, h, _⟩ := hO; exact h, hc, .inr ⟨g, 0, rfl, hO.lt, fun k hk j v hv => ?_⟩, hz⟩
  have hk' : k < xs.length := hk
  have hj : j < K.sz := by have := (List.getElem?_eq_some_iff.1 hv).1; rw [hK.len] at this; exact this
  obtain ⟨cur, c1, c2, c3, c4, c5⟩ := hO.cur
  have hlt : k * K.sz + j < xs.length * K.sz := by
    have h1 := Nat.mul_le_mul_right K.sz (show k + 1 ≤ xs.length from hk')
    rw [Nat.succ_mul] at h1
    omega
  rw [Nat.zero_add, heap_cell c1, c5 _ hlt, flat_get hK.len xs k j hk' hj]
  exact hv
theorem ints_own {w : World} {g c : Nat} {xs : List Int} (hO : ORow 3 1 w g c xs.length (xs.map (Value.int .i64))) (hc : c ≤ maxLen) : yI.rd w ⟨some ⟨g, 0, none⟩, c, xs⟩ := by
  unfold maxLen at hc
  refine yI_rd.2 ⟨by obtain ⟨_, _, _, h, _⟩ := hO; exact h, hc, .inr ⟨g, 0, rfl, hO.lt, fun k hk => ?_⟩⟩
  have hk' : k < xs.length := hk
  obtain ⟨cur, c1, c2, c3, c4, c5⟩ := hO.cur
  rw [Nat.zero_add, heap_cell c1, c5 _ (by omega)]
  simp [hk']
/-- a row without its first -/
theorem tail_rd {α β : Type} {K : Knd α β} {E : Nat} (hs : K.sz = 1) {w : World} {g c : Nat} {xs : List α} (h : (gLst E K).rd w ⟨some ⟨g, 0, none⟩, c, xs⟩) (h0 : 0 < xs.length) : (gLst E K).rd w ⟨some ⟨g, 1, none⟩, c - 1, xs.tail⟩ := by
  obtain ⟨h1, h2, h3, h4⟩ := h
  simp only at h1 h2
  refine ⟨by simp; omega, by simp only; omega, ?_, fun x hx => h4 x (List.mem_of_mem_tail hx)⟩
  rcases h3 with h3 | ⟨b, off, e, hlt, hc⟩
  · have h3 : xs = [] := h3
    rw [h3] at h0; simp at h0
  · cases e
    refine .inr ⟨g, 1, rfl, hlt, fun k hk j v hv => ?_⟩
    have hk1 : k + 1 < xs.length := by simp at hk; omega
    have e1 : xs.tail[k] = xs[k + 1] := by simp
    have := hc (k + 1) hk1 j v (by rw [← e1]; exact hv)
    rw [hs] at this ⊢
    rw [show 1 + k * 1 + j = 0 + (k + 1) * 1 + j by omega]
    exact this

/-- a drawn bus, where nothing of it turns -/
theorem BusD.move {P : Req → Prop} {B : Nat} {w0 w W : World} {m : Lst (Int × Int × Int × Bool)} {la : Lst Int} {gp cp : Nat} {zs : List (Lst QT')} {p p' : Nat} (h : BusD P B w0 w m la gp cp zs p) (hk : Keep B w W) (hr : Rd W B p') : BusD P B w0 W m la gp cp zs p' := by
  obtain ⟨M, a1, a2, a3, a4, a5, a6⟩ := h.apart
  have bl := hk.block
  obtain ⟨gl, e, hO, hc⟩ := h.ol
  have hlf : gl ∈ yI.foot la := by
    rw [yI_foot, blk_ofx (a := la) (by intro e0; have := h.la4.1; rw [e0] at this; simp at this) e]; simp
  exact ⟨hr, h.keep.trans hk, rdRngs.of h.rdm hk.size (fun b hb => bl b (rdRngs.lt h.rdm b hb) (by have := a2 b hb; omega)), h.mok, h.la4, ⟨gl, e, hO.of (bl gl hO.lt (by have := a3 gl hlf; omega)), hc⟩, h.row.of (bl gp h.row.lt (by omega)), h.cpm, h.len, fun x hx => (h.zok x hx).of hk.size (fun b hb => bl b ((h.zok x hx).lt b hb) (by have := (a5 x hx b hb).1; omega)), h.sep, h.sepm, M, a1, a2, a3, a4, a5, a6⟩
theorem BusD.bsz {B : Nat} {w0 w : World} {m : Lst (Int × Int × Int × Bool)} {la : Lst Int} {gp cp : Nat} {zs : List (Lst QT')} {p : Nat} (h : BusD Psz B w0 w m la gp cp zs p) : m.l.length ≤ 4 := by
  have := h.mok
  unfold mapOkB at this
  simp only [Bool.and_eq_true, decide_eq_true_eq, List.length_map] at this
  exact this.1
theorem BusD.rdb {P : Req → Prop} {B : Nat} {w0 w : World} {m : Lst (Int × Int × Int × Bool)} {la : Lst Int} {gp cp : Nat} {zs : List (Lst QT')} {p : Nat} (h : BusD P B w0 w m la gp cp zs p) : yBusCfg.rd w (m, la, (⟨some ⟨gp, 0, none⟩, cp, zs⟩ : Lst (Lst QT'))) := by
  obtain ⟨gl, e, hO, hc⟩ := h.ol
  obtain ⟨lap, lac, lal⟩ := la
  simp only at e hO hc
  subst e
  exact ⟨h.rdm, ints_own hO hc, rows_rd (by rw [h.len]; exact h.row) h.cpm (fun x hx => (h.zok x hx).rd)⟩
theorem BusD.ftb {P : Req → Prop} {B : Nat} {w0 w : World} {m : Lst (Int × Int × Int × Bool)} {la : Lst Int} {gp cp : Nat} {zs : List (Lst QT')} {p : Nat} (h : BusD P B w0 w m la gp cp zs p) : ∀ b ∈ yBusCfg.foot (m, la, (⟨some ⟨gp, 0, none⟩, cp, zs⟩ : Lst (Lst QT'))), w0.heap.size ≤ b := by
  obtain ⟨M, a1, a2, a3, a4, a5, a6⟩ := h.apart
  intro b hb
  rw [bus_foot] at hb
  rcases List.mem_append.1 hb with hb | hb
  · exact (a2 b hb).1
  rcases List.mem_append.1 hb with hb | hb
  · exact (a3 b hb).1
  rcases rows_foot b hb with rfl | ⟨x, hx, hb⟩
  · omega
  · have := (a5 x hx b (foot_ff x b hb)).1; omega
theorem BusD.sz {B : Nat} {w0 w : World} {m : Lst (Int × Int × Int × Bool)} {la : Lst Int} {gp cp : Nat} {zs : List (Lst QT')} {p : Nat} (h : BusD Psz B w0 w m la gp cp zs p) : BSz (m, la, (⟨some ⟨gp, 0, none⟩, cp, zs⟩ : Lst (Lst QT'))) :=
  ⟨by have := h.bsz; simp only; omega, by have := h.la4.1; simp only; omega, by have := h.len; simp only; omega, fun x hx => ⟨by have := (h.zok x hx).le; omega, (h.zok x hx).ps⟩⟩
theorem ints_set {w : World} {g c j : Nat} {xs : List Int} {x : Int} (hO : ORow 3 1 w g c xs.length (xs.map (Value.int .i64))) (hj : j < xs.length) : ORow 3 1 (w.setCell ⟨g, j, none⟩ (.int .i64 x)) g c (xs.set j x).length ((xs.set j x).map (Value.int .i64)) := by
  have h := ORow.putFull (f := gInt.cells) (s := 1) (fun _ => rfl) (by rw [flat_int]; exact hO) hj x
  have e : putC w g (rowVs (j * 1) (gInt.cells x)) = w.setCell ⟨g, j, none⟩ (.int .i64 x) := by rw [Nat.mul_one]; rfl
  rw [e, flat_int] at h
  rw [List.length_set]; exact h
def kGl (gl : Nat) : World → Value → Prop := fun _ v => ∃ j : Nat, j < 4 ∧ v = .pointer (some ⟨gl, j, none⟩)
theorem stable_gl (M gl : Nat) : Stable M (kGl gl) := fun _ _ _ _ h => h
def kReqV (M0 : Nat) : World → Value → Prop := fun w v => ∃ (r : Req) (pd : Option Addr) (cd : Nat) (pl : Option Addr) (cl : Nat), v = reqV r pd cd pl cl ∧ yReqReq.rd w (reqK r pd cd pl cl) ∧ (∀ b ∈ yReqReq.foot (reqK r pd cd pl cl), M0 ≤ b) ∧ Psz r
def SReq (M0 : Nat) (ys : List QT') : World → List Value → Prop := fun w cs => ∃ y : QT', cs = (ys ++ [y]).flatMap yReqReq.cells ∧ yReqReq.rd w y ∧ (∀ b ∈ yReqReq.foot y, M0 ≤ b) ∧ Psz (reqOf (yReqReq.pl y))
theorem sReq_up (M0 : Nat) (ys : List QT') : SU M0 (SReq M0 ys) := fun w w' cs hu ⟨y, e, h1, h2, h3⟩ => ⟨y, e, rdReq.of h1 hu.size (fun b hb => hu.block b (h2 b hb) (rdReq.lt h1 b hb)), h2, h3⟩
theorem kReqV_up {M0 : Nat} {w w' : World} {v : Value} (hu : Up M0 w w') (h : kReqV M0 w v) : kReqV M0 w' v := by
  obtain ⟨r, pd, cd, pl, cl, e, h1, h2, h3⟩ := h
  exact ⟨r, pd, cd, pl, cl, e, rdReq.of h1 hu.size (fun b hb => hu.block b (h2 b hb) (rdReq.lt h1 b hb)), h2, h3⟩

set_option maxRecDepth 100000 in
set_option maxHeartbeats 8000000 in
theorem l20BusOr_any (B p : Nat) (n : Int) (w : World) (h : Rd w B p) (hp : p ≤ 100000) (hn : 1 ≤ n) (hn' : n ≤ 8999) :
    Calls Try.prog 27 #[.pointer (some ⟨B, 0, none⟩), .int .i64 n] w fun e w' => ∃ m la ps, e = .returned (yBusCfg.val (m, la, ps)) ∧ yBusCfg.rd w' (m, la, ps) ∧ BSz (m, la, ps) ∧ (∀ b ∈ yBusCfg.foot (m, la, ps), w.heap.size ≤ b) ∧ ∃ p', Rd w' B p' ∧ p' ≤ p + 800000 ∧ Keep B w w' := by
  have hB := h.lt
  have HR0 := Hid.intro h
  clear h
  go_enter Try.func27, Try.ntmps27
  go_wp2_with fail
  refine (l20Bus_any reqD_sz holdD_sz B p 6 _ (HR0.out.alloc _) (by omega) (by omega)).mono ?_
  rintro e w1 ⟨m, ⟨lap, lac, lal⟩, gp, cp, zs, rfl, p1, hD, hp1⟩
  rw [yBusCfg_val]
  obtain ⟨gl, hgl, hlO, hlc⟩ := hD.ol
  simp only at hgl hlO hlc
  subst hgl
  have hD2 := hD.move ((Keep.refl B w1).alloc (.cells #[.slice m.p m.l.length m.c, .slice (some ⟨gl, 0, none⟩) lal.length lac, .slice (some ⟨gp, 0, none⟩) zs.length cp] 27)) (hD.rd.alloc _)
  have hz3 : zs.length = 3 := hD.len
  have hl4 : lal.length = 4 := hD.la4.1
  obtain ⟨R, hRe⟩ : ∃ R, R = w.heap.size := ⟨_, rfl⟩
  obtain ⟨X, hXe⟩ : ∃ X, X = w1.heap.size := ⟨_, rfl⟩
  have hs1 : w.heap.size + 1 ≤ w1.heap.size := by have := hD.keep.size; simpa using this
  obtain ⟨w2, hw2⟩ : ∃ w2, w2 = w1.alloc (.cells #[.slice m.p m.l.length m.c, .slice (some ⟨gl, 0, none⟩) lal.length lac, .slice (some ⟨gp, 0, none⟩) zs.length cp] 27) := ⟨_, rfl⟩
  have HXC : Hid (∀ W, Keep B w2 W → W.heap[X]? = some (.cells #[.slice m.p m.l.length m.c, .slice (some ⟨gl, 0, none⟩) lal.length lac, .slice (some ⟨gp, 0, none⟩) zs.length cp] 27 (0, 0)) ∧ W.heap[R]? = some (.cells #[.slice none 0 0, .slice none 0 0, .slice none 0 0] 27 (0, 0)) ∧ Keep B w W) := Hid.intro (fun W hW => by
    have hg := below_nw w1 (.cells #[.slice m.p m.l.length m.c, .slice (some ⟨gl, 0, none⟩) lal.length lac, .slice (some ⟨gp, 0, none⟩) zs.length cp] 27)
    rw [← hw2] at hg
    have h1 : w2.heap[X]? = some (.cells #[.slice m.p m.l.length m.c, .slice (some ⟨gl, 0, none⟩) lal.length lac, .slice (some ⟨gp, 0, none⟩) zs.length cp] 27 (0, 0)) := by rw [hw2]; exact nw_k _ hXe
    have h2 : w1.heap[R]? = some (.cells #[.slice none 0 0, .slice none 0 0, .slice none 0 0] 27 (0, 0)) := (hD.keep.block R (by simp; omega) (by omega)).trans (nw_k _ hRe)
    have h3 := (hg.block R (by omega)).trans h2
    exact ⟨(hW.block X (heap_lt h1) (by omega)).trans h1, (hW.block R (heap_lt h3) (by omega)).trans h3, ((Keep.refl B w).alloc _).trans (hD.keep.trans ((⟨hg.os, hg.tape, hg.output, hg.size, fun k hk _ => hg.block k hk⟩ : Keep B w1 w2).trans hW))⟩)
  rw [← hw2] at hD2
  have HDD := Hid.intro hD2
  have HRB : Hid (∀ b ∈ yBusCfg.foot (m, (⟨some ⟨gl, 0, none⟩, lac, lal⟩ : Lst Int), (⟨some ⟨gp, 0, none⟩, cp, zs⟩ : Lst (Lst QT'))), R < b) := Hid.intro (fun b hb => by have := hD.ftb b hb; simp at this; omega)
  have HNX : Hid (∀ b ∈ yBusCfg.foot (m, (⟨some ⟨gl, 0, none⟩, lac, lal⟩ : Lst Int), (⟨some ⟨gp, 0, none⟩, cp, zs⟩ : Lst (Lst QT'))), b ≠ X) := Hid.intro (fun b hb => by have := rdBus.lt hD.rdb b hb; omega)
  have HNF : Hid (∀ x ∈ zs, ∀ b ∈ ff x, b ≠ X ∧ R < b) := Hid.intro (fun x hx b hb => ⟨by have := (hD.zok x hx).lt b hb; omega, by obtain ⟨M, a1, a2, a3, a4, a5, a6⟩ := hD.apart; have := (a5 x hx b hb).1; simp at a6; omega⟩)
  have hRw : w.heap.size ≤ R := by omega
  have hXR : R < X := by omega
  have hBR : B < R := by omega
  have H34 := Hid.intro (And.intro hz3 hl4)
  clear hD hD2 hlO hlc hz3 hl4
  go_wp2_with fail
  rw [← hw2, ← hXe]
  rw [← hRe]
  clear hXe hw2 hRe
  refine (odd_any B p1 n w2 HDD.out.rd (by omega) hn hn').mono ?_
  rintro e w3 ⟨bo, rfl, hr3, hK3⟩
  have HK3 := Hid.intro hK3
  have HR3 := Hid.intro hr3
  clear hr3 hK3
  have HD3 := Hid.intro (HDD.out.move HK3.out HR3.out)
  have hp2 : p1 ≤ p + 500000 := hp1
  have HMm := Hid.intro (show m.l.length ≤ 4 from HDD.out.bsz)
  clear HDD HR0
  go_upto_if 10 with fail
  go_cut [] (fun wx => BoS B R X (p + 800000) w wx)
  case first =>
    cases bo
    · have hx := HXC.out _ HK3.out
      have HE : Hid (BoS B R X (p + 800000) w w3) := Hid.intro ⟨m, ⟨some ⟨gl, 0, none⟩, lac, lal⟩, ⟨some ⟨gp, 0, none⟩, cp, zs⟩, p1 + 1, hx.1, hx.2.1, HD3.out.rdb, HD3.out.sz, by omega, HD3.out.rd, hx.2.2, HRB.out⟩
      clear hx HD3 HRB HXC HK3 HR3
      go_wp2
      go_meet
      case rel => exact HE.out
    · go_wp2_with fail
      refine (pick_at HR3.out (by omega) 5 (by omega) (by omega)).mono ?_
      rintro e w4 ⟨k4, a4, b4, rfl, hr4, hK4⟩
      have HK4 := Hid.intro (HK3.out.trans hK4)
      have HR4 := Hid.intro hr4
      have HD4 := Hid.intro (HD3.out.move hK4 hr4)
      have hx := HXC.out _ HK4.out
      have HX4 := Hid.intro hx
      clear hr4 hK4 hx HK3 HR3 HD3
      by_cases q0 : k4 = 0
      · subst q0
        go_wp2_with fail
        refine (l20Map_any B (p1 + 1 + 1) 1 w4 HR4.out (by omega) (by omega) (by omega)).mono ?_
        rintro e w5 ⟨v, rfl, b, cap, q, xs, rfl, x1, x7, xc, xm, hM, _, hb, hr5, hq5, hK5⟩
        obtain ⟨ms, rfl⟩ : ∃ ms : List (Int × Int × Int × Bool), xs = ms.map rngOf := ⟨xs.map rngT, by rw [List.map_map]; exact (List.map_id _).symm⟩
        have hx := HXC.out _ (HK4.out.trans hK5)
        have hb5 : b < w5.heap.size := by
          rcases hM with h | ⟨b', off, e, hlt, _⟩
          · rw [h] at x1; simp at x1
          · cases e; exact hlt
        have hRl := heap_lt HX4.out.2.1
        have hXs := heap_set hx.1 0 (.slice (some ⟨b, 0, none⟩) ms.length cap)
        have c0 : w5.cell? ⟨X, 0, none⟩ = some (.slice m.p m.l.length m.c) := heap_cell hx.1 0
        have d0 : w5.frozen? ⟨X, 0, none⟩ = false := heap_free hx.1 0
        have hD5 := HD4.out.move hK5 hr5
        have HE : Hid (BoS B R X (p + 800000) w (w5.setCell ⟨X, 0, none⟩ (.slice (some ⟨b, 0, none⟩) ms.length cap))) := Hid.intro (by
          have st : ∀ c, c ≠ X → (w5.setCell ⟨X, 0, none⟩ (.slice (some ⟨b, 0, none⟩) ms.length cap)).heap[c]? = w5.heap[c]? := fun c hc => heap_set_ne hc
          have hsz : w5.heap.size ≤ (w5.setCell ⟨X, 0, none⟩ (.slice (some ⟨b, 0, none⟩) ms.length cap)).heap.size := by simp
          have hX4 := heap_lt HX4.out.1
          obtain ⟨y1, y2, y3⟩ := HD4.out.rdb
          obtain ⟨z1, z2, z3⟩ := hD5.rdb
          have nf : ∀ c ∈ yBusCfg.foot (m, (⟨some ⟨gl, 0, none⟩, lac, lal⟩ : Lst Int), (⟨some ⟨gp, 0, none⟩, cp, zs⟩ : Lst (Lst QT'))), c ≠ X := HNX.out
          refine ⟨⟨some ⟨b, 0, none⟩, cap, ms⟩, ⟨some ⟨gl, 0, none⟩, lac, lal⟩, ⟨some ⟨gp, 0, none⟩, cp, zs⟩, q, by simpa using hXs, (st R (by omega)).trans hx.2.1, ⟨rdRngs.of (rngs_of hM (by simpa using xc) xm) hsz (fun c hc => st c (by rw [rngs_foot (w := w5) (S := 0) (Nat.zero_le _) c hc]; omega)), rdI.of z2 hsz (fun c hc => st c (nf c (List.mem_append.2 (.inr (List.mem_append.2 (.inl hc)))))), rdReqss.of z3 hsz (fun c hc => st c (nf c (List.mem_append.2 (.inr (List.mem_append.2 (.inr hc))))))⟩, ?_, by omega, hr5.other (x := ⟨X, 0, none⟩) (by show B < X; omega) _, hx.2.2.setCell (p := ⟨X, 0, none⟩) (.inr (by show w.heap.size ≤ X; omega)) _, ?_⟩
          · have := hD5.sz
            exact ⟨by have : ms.length ≤ 7 := by simpa using x7
                      exact this, this.2⟩
          · intro c hc
            rcases List.mem_append.1 hc with hc | hc
            · rw [rngs_foot (w := w5) (S := 0) (Nat.zero_le _) c hc]; omega
            · exact HRB.out c (List.mem_append.2 (.inr hc)))
        simp only [List.length_map]
        clear hx hXs hD5 hM hr5 hK5 HD4 HRB HXC HK4 HR4 HX4 HNX
        go_wp2
        go_meet
        case rel => exact HE.out
      have e0 : (k4 == 0) = false := by simpa using q0
      have HRP := Hid.intro (show p1 + 1 + 1 ≤ p + 500002 by omega)
      by_cases q1 : k4 = 1
      · subst q1
        go_wp2_with fail
        have hXk : ∀ W, Keep B w4 W → W.heap[X]? = some (.cells #[.slice m.p m.l.length m.c, .slice (some ⟨gl, 0, none⟩) lal.length lac, .slice (some ⟨gp, 0, none⟩) zs.length cp] 27 (0, 0)) := fun W hW => (HXC.out _ (HK4.out.trans hW)).1
        have hl4 := H34.out.2
        refine wp_region_then (by kernel_rfl) (Up w4.heap.size) (Cls B (p1 + 1 + 1) w4)
          (tab [(31, kIs (.pointer (some ⟨X, 1, none⟩))), (32, kIs (.slice (some ⟨gl, 0, none⟩) lal.length lac)), (33, kIs (.pointer (some ⟨B, 0, none⟩))), (34, kInt 0 3), (35, kRow w4.heap.size 2 (-1) 4), (36, kIs (.pointer (some ⟨B, 0, none⟩))), (37, kInt 0 1), (38, kCell w4.heap.size (-1) 4), (39, kInt (-1) 4), (40, kGl gl)])
          10 _ [31, 32, 33, 34, 35, 36, 37, 38, 39, 40] rfl rfl (by kernel_rfl) (by kernel_rfl) rfl (by kernel_rfl) (tab_stable (by simp [stable_any, stable_is, stable_int, stable_bool, stable_row, stable_cell, stable_gl])) ?_ ?_ ?_
        · exact ⟨_, by omega, HR4.out.below (Below.refl _ _).drew, (Keep.refl _ _).drew⟩
        · refine ops_cons (gd rfl <| tx_pure rfl rfl (fun _ _ h => h.next) (Up.refl _) (fun i ρ W hat hW => ?_)) ?_
          · have e2 := hat.out 5 (by kernel_rfl)
            simp [Act.eval] at e2
            simp only [execOp, e2]; go_simp
          refine ops_cons (gd rfl <| tx_pure rfl rfl (fun _ _ h => h.next) (Up.refl _) (fun i ρ W hat hW => ?_)) ?_
          · obtain ⟨_, _, _, hKW⟩ := hW
            have e2 : ρ (.tmp 31) = _ := hat.dep 31 (by kernel_rfl)
            have c1 : W.cell? ⟨X, 1, none⟩ = some (.slice (some ⟨gl, 0, none⟩) lal.length lac) := heap_cell (hXk W hKW) 1
            clear hl4
            simp only [execOp, e2]; go_simp
          refine ops_cons (gd rfl <| tx_pure rfl rfl (fun _ _ h => h.next) (Up.refl _) (fun i ρ W hat hW => ?_)) ?_
          · have e2 := hat.out 0 (by kernel_rfl)
            simp [Act.eval] at e2
            simp only [execOp, e2]; go_simp
          refine ops_cons (gd rfl <| ty_pick rfl rfl (by kernel_rfl) rfl rfl (by decide) (by decide) (by simp; omega) HR4.out.lt) ?_
          refine ops_cons (gd rfl <| ty_build rfl rfl (fun _ _ o h => h.alloc o) (fun _ _ h => h.le) (fun ρ w hc hd => ?_)) ?_
          · exact ⟨[-1, 4], rfl, by simp, by simp only [execOp, hc]; go_simp⟩
          refine ops_cons (gd rfl <| tx_pure rfl rfl (fun _ _ h => h.next) (Up.refl _) (fun i ρ W hat hW => ?_)) ?_
          · have e2 := hat.out 0 (by kernel_rfl)
            simp [Act.eval] at e2
            simp only [execOp, e2]; go_simp
          refine ops_cons (gd rfl <| ty_pick rfl rfl (by kernel_rfl) rfl rfl (by decide) (by decide) (by simp; omega) HR4.out.lt) ?_
          refine ops_cons (gd rfl <| ty_index rfl rfl (by kernel_rfl) (by kernel_rfl) rfl rfl (by decide) (by decide) rfl (fun _ _ h => h.next)) ?_
          refine ops_cons (gd rfl <| ty_load rfl rfl (by kernel_rfl) rfl rfl (fun _ _ h => h.next)) ?_
          refine ops_cons (gd rfl <| tx_val rfl (fun i ρ W _ hat hW => ?_)) ?_
          · have e1 : ρ (.tmp 32) = _ := hat.dep 32 (by kernel_rfl)
            obtain ⟨x, e2, lx, ux⟩ : kInt 0 3 W (ρ (.tmp 34)) := hat.dep 34 (by kernel_rfl)
            obtain ⟨j, rfl⟩ := Int.eq_ofNat_of_zero_le lx
            have hjI : (j : Int) < 4 := by omega
            have hjL : (j : Int) < (lal.length : Int) := by omega
            clear ux
            exact ⟨.pointer (some ⟨gl, j, none⟩), W, by simp only [execOp, e1, e2]; go_simp, hW.next, Up.refl _ _, ⟨j, by omega, rfl⟩⟩
          exact ops_nil
        · intro f W hW hf
          obtain ⟨x, e39, _, _⟩ : kInt (-1) 4 W (f 39) := hf 39 (by simp)
          obtain ⟨j, hj, e40⟩ : kGl gl W (f 40) := hf 40 (by simp)
          clear hf
          obtain ⟨pq, hpq, hrW, hkW⟩ := hW
          simp at hpq
          have hx := HXC.out _ (HK4.out.trans hkW)
          have hD5 := HD4.out.move hkW hrW
          obtain ⟨gl', egl, hlO, hlc⟩ := hD5.ol
          cases egl
          simp only at hlO hlc
          have hjl : j < lal.length := by omega
          obtain ⟨cur, k1, k2, k3, k4, k5⟩ := hlO.cur
          have cc : W.cell? ⟨gl, j, none⟩ = some (.int .i64 lal[j]) := by rw [heap_cell k1, k5 _ (by omega)]; simp [hjl]
          have dd : W.frozen? ⟨gl, j, none⟩ = false := heap_free k1 j
          have HE : Hid (BoS B R X (p + 800000) w (W.setCell ⟨gl, j, none⟩ (.int .i64 x))) := Hid.intro (by
            have st : ∀ c, c ≠ gl → (W.setCell ⟨gl, j, none⟩ (.int .i64 x)).heap[c]? = W.heap[c]? := fun c hc => heap_set_ne hc
            have hsz : W.heap.size ≤ (W.setCell ⟨gl, j, none⟩ (.int .i64 x)).heap.size := by simp
            have hgf : gl ∈ yI.foot (⟨some ⟨gl, 0, none⟩, lac, lal⟩ : Lst Int) := by rw [yI_foot, blk_ofx (a := ⟨some ⟨gl, 0, none⟩, lac, lal⟩) (by intro e0; rw [show lal = [] from e0] at hl4; simp at hl4) rfl]; simp
            have hgX : gl ≠ X := HNX.out gl (List.mem_append.2 (.inr (List.mem_append.2 (.inl hgf))))
            have hgR : R < gl := HRB.out gl (List.mem_append.2 (.inr (List.mem_append.2 (.inl hgf))))
            obtain ⟨z1, z2, z3⟩ := hD5.rdb
            obtain ⟨M, a1, a2, a3, a4, a5, a6⟩ := hD5.apart
            refine ⟨m, ⟨some ⟨gl, 0, none⟩, lac, lal.set j x⟩, ⟨some ⟨gp, 0, none⟩, cp, zs⟩, pq, by rw [show (lal.set j x).length = lal.length by simp]; exact (st X (fun e => hgX e.symm)).trans hx.1, (st R (by omega)).trans hx.2.1, ⟨rdRngs.of z1 hsz (fun c hc => st c (Nat.ne_of_lt (hD5.sepm c hc gl hgf))), ints_own (ints_set hlO hjl) hlc, rdReqss.of z3 hsz (fun c hc => st c (by
              have := a3 gl hgf
              rcases rows_foot c hc with rfl | ⟨y, hy, hc⟩
              · omega
              · have := (a5 y hy c (foot_ff y c hc)).1; omega))⟩, ?_, by omega, hrW.other (x := ⟨gl, j, none⟩) (by show B < gl; omega) _, hx.2.2.setCell (p := ⟨gl, j, none⟩) (.inr (by show w.heap.size ≤ gl; omega)) _, ?_⟩
            · have := hD5.sz
              exact ⟨this.1, by have := this.2.1; simpa using this, this.2.2⟩
            · intro c hc
              refine HRB.out c ?_
              rcases List.mem_append.1 hc with hc | hc
              · exact List.mem_append.2 (.inl hc)
              rcases List.mem_append.1 hc with hc | hc
              · refine List.mem_append.2 (.inr (List.mem_append.2 (.inl ?_)))
                rw [yI_foot] at hc
                obtain ⟨_, y, e, e'⟩ := blk_mem hc
                cases e; simp only at e'; subst e'; exact hgf
              · exact List.mem_append.2 (.inr (List.mem_append.2 (.inr hc))))
          clear hx hD5 hlO hrW hkW HD4 HRB HXC HK4 HR4 HX4 HNX hXk k1 k5
          simp only [fill, e39, e40]
          go_simp
          go_wp2
          go_meet
          case rel => exact HE.out
      have e1 : (k4 == 1) = false := by simpa using q1
      by_cases q2 : k4 = 2
      · subst q2
        have hl4 := H34.out.2
        have ht : lal.tail.length = 3 := by simp [hl4]
        have c1 : w4.cell? ⟨X, 1, none⟩ = some (.slice (some ⟨gl, 0, none⟩) lal.length lac) := heap_cell HX4.out.1 1
        have d1 : w4.frozen? ⟨X, 1, none⟩ = false := heap_free HX4.out.1 1
        have HXs := Hid.intro (heap_set HX4.out.1 1 (.slice (some ⟨gl, 1, none⟩) lal.tail.length (lac - 1)))
        have hcl : 4 ≤ lac := by have := HD4.out.rdb.2.1.1; simp only at this; omega
        have hcI : (1 : Int) ≤ (lac : Int) := by omega
        have HE : Hid (BoS B R X (p + 800000) w (w4.setCell ⟨X, 1, none⟩ (.slice (some ⟨gl, 1, none⟩) 3 (lac - 1)))) := Hid.intro (by
          suffices key : BoS B R X (p + 800000) w (w4.setCell ⟨X, 1, none⟩ (.slice (some ⟨gl, 1, none⟩) lal.tail.length (lac - 1))) by rw [ht] at key; exact key
          have st : ∀ c, c ≠ X → (w4.setCell ⟨X, 1, none⟩ (.slice (some ⟨gl, 1, none⟩) lal.tail.length (lac - 1))).heap[c]? = w4.heap[c]? := fun c hc => heap_set_ne hc
          have hsz : w4.heap.size ≤ (w4.setCell ⟨X, 1, none⟩ (.slice (some ⟨gl, 1, none⟩) lal.tail.length (lac - 1))).heap.size := by simp
          obtain ⟨z1, z2, z3⟩ := HD4.out.rdb
          have hgf : gl ∈ yI.foot (⟨some ⟨gl, 0, none⟩, lac, lal⟩ : Lst Int) := by rw [yI_foot, blk_ofx (a := ⟨some ⟨gl, 0, none⟩, lac, lal⟩) (by intro e0; rw [show lal = [] from e0] at hl4; simp at hl4) rfl]; simp
          have tf : ∀ c ∈ yI.foot (⟨some ⟨gl, 1, none⟩, lac - 1, lal.tail⟩ : Lst Int), c = gl := fun c hc => by
            rw [yI_foot] at hc
            obtain ⟨_, y, e, e'⟩ := blk_mem hc
            cases e; exact e'.symm
          have nl : gl ≠ X := HNX.out gl (List.mem_append.2 (.inr (List.mem_append.2 (.inl hgf))))
          have nr : R < gl := HRB.out gl (List.mem_append.2 (.inr (List.mem_append.2 (.inl hgf))))
          refine ⟨m, ⟨some ⟨gl, 1, none⟩, lac - 1, lal.tail⟩, ⟨some ⟨gp, 0, none⟩, cp, zs⟩, _, by simpa using HXs.out, (st R (by omega)).trans HX4.out.2.1, ⟨rdRngs.of z1 hsz (fun c hc => st c (HNX.out c (List.mem_append.2 (.inl hc)))), rdI.of (tail_rd (K := gInt) rfl z2 (by omega)) hsz (fun c hc => st c (by rw [tf c hc]; exact nl)), rdReqss.of z3 hsz (fun c hc => st c (HNX.out c (List.mem_append.2 (.inr (List.mem_append.2 (.inr hc))))))⟩, ?_, by have := HRP.out; omega, HR4.out.other (x := ⟨X, 1, none⟩) (by show B < X; omega) _, HX4.out.2.2.setCell (p := ⟨X, 1, none⟩) (.inr (by show w.heap.size ≤ X; omega)) _, ?_⟩
          · have := HD4.out.sz
            exact ⟨this.1, by show lal.tail.length ≤ 4; omega, this.2.2⟩
          · intro c hc
            rcases List.mem_append.1 hc with hc | hc
            · exact HRB.out c (List.mem_append.2 (.inl hc))
            rcases List.mem_append.1 hc with hc | hc
            · rw [tf c hc]; exact nr
            · exact HRB.out c (List.mem_append.2 (.inr (List.mem_append.2 (.inr hc)))))
        clear HD4 HRB HXC HK4 HR4 HNX HXs ht
        rw [hl4] at c1
        go_wp2
        go_meet
        case rel => exact HE.out
      have e2 : (k4 == 2) = false := by simpa using q2
      by_cases q3 : k4 = 3
      · subst q3
        have hz3 := H34.out.1
        have ht : zs.tail.length = 2 := by simp [hz3]
        have c1 : w4.cell? ⟨X, 2, none⟩ = some (.slice (some ⟨gp, 0, none⟩) zs.length cp) := heap_cell HX4.out.1 2
        have d1 : w4.frozen? ⟨X, 2, none⟩ = false := heap_free HX4.out.1 2
        have HXs := Hid.intro (heap_set HX4.out.1 2 (.slice (some ⟨gp, 1, none⟩) zs.tail.length (cp - 1)))
        have hcl : 3 ≤ cp := by have := HD4.out.rdb.2.2.1; simp only at this; omega
        have hcI : (1 : Int) ≤ (cp : Int) := by omega
        have HE : Hid (BoS B R X (p + 800000) w (w4.setCell ⟨X, 2, none⟩ (.slice (some ⟨gp, 1, none⟩) 2 (cp - 1)))) := Hid.intro (by
          suffices key : BoS B R X (p + 800000) w (w4.setCell ⟨X, 2, none⟩ (.slice (some ⟨gp, 1, none⟩) zs.tail.length (cp - 1))) by rw [ht] at key; exact key
          have st : ∀ c, c ≠ X → (w4.setCell ⟨X, 2, none⟩ (.slice (some ⟨gp, 1, none⟩) zs.tail.length (cp - 1))).heap[c]? = w4.heap[c]? := fun c hc => heap_set_ne hc
          have hsz : w4.heap.size ≤ (w4.setCell ⟨X, 2, none⟩ (.slice (some ⟨gp, 1, none⟩) zs.tail.length (cp - 1))).heap.size := by simp
          obtain ⟨z1, z2, z3⟩ := HD4.out.rdb
          have tf : ∀ c ∈ yReqReqSS.foot (⟨some ⟨gp, 1, none⟩, cp - 1, zs.tail⟩ : Lst (Lst QT')), c ∈ yReqReqSS.foot (⟨some ⟨gp, 0, none⟩, cp, zs⟩ : Lst (Lst QT')) := fun c hc => by
            rcases rows_foot c hc with rfl | ⟨y, hy, hm⟩
            · refine List.mem_append.2 (.inl ?_)
              rw [blk_ofx (a := (⟨some ⟨c, 0, none⟩, cp, zs⟩ : Lst (Lst QT'))) (by intro e0; rw [show zs = [] from e0] at hz3; simp at hz3) rfl]; simp
            · exact List.mem_append.2 (.inr (List.mem_flatMap.2 ⟨y, List.mem_of_mem_tail hy, hm⟩))
          refine ⟨m, ⟨some ⟨gl, 0, none⟩, lac, lal⟩, ⟨some ⟨gp, 1, none⟩, cp - 1, zs.tail⟩, _, by simpa using HXs.out, (st R (by omega)).trans HX4.out.2.1, ⟨rdRngs.of z1 hsz (fun c hc => st c (HNX.out c (List.mem_append.2 (.inl hc)))), rdI.of z2 hsz (fun c hc => st c (HNX.out c (List.mem_append.2 (.inr (List.mem_append.2 (.inl hc)))))), rdReqss.of (tail_rd (K := yReqReqS) rfl z3 (by omega)) hsz (fun c hc => st c (HNX.out c (List.mem_append.2 (.inr (List.mem_append.2 (.inr (tf c hc)))))))⟩, ?_, by have := HRP.out; omega, HR4.out.other (x := ⟨X, 2, none⟩) (by show B < X; omega) _, HX4.out.2.2.setCell (p := ⟨X, 2, none⟩) (.inr (by show w.heap.size ≤ X; omega)) _, ?_⟩
          · have := HD4.out.sz
            exact ⟨this.1, this.2.1, by show zs.tail.length ≤ 3; omega, fun y hy => this.2.2.2 y (List.mem_of_mem_tail hy)⟩
          · intro c hc
            rcases List.mem_append.1 hc with hc | hc
            · exact HRB.out c (List.mem_append.2 (.inl hc))
            rcases List.mem_append.1 hc with hc | hc
            · exact HRB.out c (List.mem_append.2 (.inr (List.mem_append.2 (.inl hc))))
            · exact HRB.out c (List.mem_append.2 (.inr (List.mem_append.2 (.inr (tf c hc))))))
        clear HD4 HRB HXC HK4 HR4 HNX HXs ht
        rw [hz3] at c1
        go_wp2
        go_meet
        case rel => exact HE.out
      have e3 : (k4 == 3) = false := by simpa using q3
      obtain ⟨z0, zr, rfl⟩ : ∃ z0 zr, zs = z0 :: zr := by
        cases zs with
        | nil => have := H34.out.1; simp at this
        | cons a l => exact ⟨a, l, rfl⟩
      obtain ⟨z0p, z0c, z0l⟩ := z0
      obtain ⟨g0, hg0, hO0, hc0, hn0⟩ := (HD4.out.zok _ (List.mem_cons_self ..)).own
      simp only at hg0 hO0 hc0 hn0
      subst hg0
      have hff0 : g0 ∈ ff (⟨some ⟨g0, 0, none⟩, z0c, z0l⟩ : Lst QT') := List.mem_append.2 (.inl (by simp))
      have hz12 : z0l.length ≤ 12 := (HD4.out.zok _ (List.mem_cons_self ..)).le
      have hap := HD4.out.apart
      have hgg : g0 ≠ gp ∧ B < g0 ∧ B < gp := by
        obtain ⟨M, a1, a2, a3, a4, a5, a6⟩ := hap
        have := a5 _ (List.mem_cons_self ..) g0 hff0
        omega
      have hg0l : g0 < w4.heap.size := hO0.lt
      have hgpl : gp < w4.heap.size := HD4.out.row.lt
      have hPA : PA B w4.heap.size (some ⟨g0, 0, none⟩) := ⟨HR4.out.lt, fun g e => by cases e; omega⟩
      have hkeep : ∀ W, Kept (DA B (some ⟨g0, 0, none⟩)) w4 W → ∀ c, c < w4.heap.size → c ≠ B → c ≠ g0 → W.heap[c]? = w4.heap[c]? := fun W hW c hc hn hg => hW.block c hc (fun hd => by
        rcases hd with e | e
        · exact hn e
        · cases e; exact hg rfl)
      have hXk : ∀ W, Kept (DA B (some ⟨g0, 0, none⟩)) w4 W → W.heap[X]? = some (.cells #[.slice m.p m.l.length m.c, .slice (some ⟨gl, 0, none⟩) lal.length lac, .slice (some ⟨gp, 0, none⟩) ((⟨some ⟨g0, 0, none⟩, z0c, z0l⟩ : Lst QT') :: zr).length cp] 27 (0, 0)) := fun W hW => (hkeep W hW X (heap_lt HX4.out.1) (by omega) (fun e => (HNF.out _ (List.mem_cons_self ..) g0 hff0).1 e.symm)).trans HX4.out.1
      have hGc : ∀ W, Kept (DA B (some ⟨g0, 0, none⟩)) w4 W → ORow 31 1 W gp cp 3 (((⟨some ⟨g0, 0, none⟩, z0c, z0l⟩ : Lst QT') :: zr).flatMap yReqReqS.cells) := fun W hW => HD4.out.row.of (hkeep W hW gp hgpl (by omega) (fun e => hgg.1 e.symm))
      have hG0 : ∀ W, Kept (DA B (some ⟨g0, 0, none⟩)) w4 W → W.cell? ⟨gp, 0, none⟩ = some (.slice (some ⟨g0, 0, none⟩) z0l.length z0c) ∧ W.frozen? ⟨gp, 0, none⟩ = false := fun W hW => by
        obtain ⟨cur, k1, k2, k3, k4, k5⟩ := (hGc W hW).cur
        refine ⟨?_, heap_free k1 0⟩
        rw [heap_cell k1, k5 0 (by omega)]
        rfl
      have hzl : (0 : Int) < ((((⟨some ⟨g0, 0, none⟩, z0c, z0l⟩ : Lst QT') :: zr).length : Nat) : Int) := by simp
      obtain ⟨i0, hi, hz0, hz1, hz2⟩ := info_parts Try.infoReqReqS
      have HII := Hid.intro (And.intro hi (And.intro hz0 (And.intro hz1 hz2)))
      clear hi hz0 hz1 hz2 hap
      obtain ⟨nz, hnz⟩ : ∃ nz, nz = ((⟨some ⟨g0, 0, none⟩, z0c, z0l⟩ : Lst QT') :: zr).length := ⟨_, rfl⟩
      have HXk := Hid.intro hXk
      have HG0 := Hid.intro hG0
      have HNZ := Hid.intro hnz
      rw [← hnz] at hzl
      have hnz0 : ¬ nz = 0 := by omega
      clear hXk hG0 hnz
      go_wp2_with fail
      refine wp_region_then (by kernel_rfl) (RA B (some ⟨g0, 0, none⟩) w4.heap.size 40 7 z0l.length (SReq w4.heap.size z0l)) (CA B (p1 + 1 + 1) 21000 (some ⟨g0, 0, none⟩) z0c 40 7 z0l.length (z0l.flatMap yReqReq.cells) w4)
        (tab [(13, kIs (.pointer (some ⟨X, 2, none⟩))), (14, kIs (.slice (some ⟨gp, 0, none⟩) nz cp)), (15, kIs (.pointer (some ⟨X, 2, none⟩))), (16, kIs (.slice (some ⟨gp, 0, none⟩) nz cp)), (17, kIs (.pointer (some ⟨gp, 0, none⟩))), (18, kIs (.slice (some ⟨g0, 0, none⟩) z0l.length z0c)), (19, kIs (.pointer (some ⟨B, 0, none⟩))), (20, kReqV w4.heap.size), (21, kNw yReqReq w4.heap.size (SReq w4.heap.size z0l) z0l), (22, kAp (some ⟨g0, 0, none⟩) w4.heap.size 40 7 z0l.length (SReq w4.heap.size z0l)), (23, kIs (.pointer (some ⟨gp, 0, none⟩)))])
        11 _ [13, 14, 15, 16, 17, 18, 19, 20, 21, 22, 23] rfl rfl (by kernel_rfl) (by kernel_rfl) rfl (by kernel_rfl) ?_ ?_ ?_ ?_
      · refine tabR_stable ?_
        intro x hx
        simp only [List.mem_cons, List.not_mem_nil, or_false] at hx
        rcases hx with rfl | rfl | rfl | rfl | rfl | rfl | rfl | rfl | rfl | rfl | rfl
        all_goals intro w w' v hr hv
        all_goals first | exact hv | exact kReqV_up hr.1 hv | exact kNw_ra (sReq_up _ _) hr hv | exact kAp_ra (sReq_up _ _) hr hv
      · exact ⟨⟨p1 + 1 + 1, by omega, HR4.out.below (Below.refl _ _).drew⟩, Kept.drew _ _, .inr ⟨g0, rfl, hO0.of ((Below.refl _ w4).drew.block g0 hg0l), hc0⟩⟩
      · refine ops_cons (gd rfl <| tx_pure rfl rfl (fun _ _ h => h.next) RA.refl (fun i ρ W hat hW => ?_)) ?_
        · have e2 := hat.out 5 (by kernel_rfl)
          simp [Act.eval] at e2
          simp only [execOp, e2]; go_simp
        refine ops_cons (gd rfl <| tx_pure rfl rfl (fun _ _ h => h.next) RA.refl (fun i ρ W hat hW => ?_)) ?_
        · have e2 : ρ (.tmp 13) = _ := hat.dep 13 (by kernel_rfl)
          have c1 : W.cell? ⟨X, 2, none⟩ = some (.slice (some ⟨gp, 0, none⟩) nz cp) := by rw [HNZ.out]; exact heap_cell (HXk.out W hW.2.1) 2
          simp only [execOp, e2]; go_simp
        refine ops_cons (gd rfl <| tx_pure rfl rfl (fun _ _ h => h.next) RA.refl (fun i ρ W hat hW => ?_)) ?_
        · have e2 := hat.out 5 (by kernel_rfl)
          simp [Act.eval] at e2
          simp only [execOp, e2]; go_simp
        refine ops_cons (gd rfl <| tx_pure rfl rfl (fun _ _ h => h.next) RA.refl (fun i ρ W hat hW => ?_)) ?_
        · have e2 : ρ (.tmp 15) = _ := hat.dep 15 (by kernel_rfl)
          have c1 : W.cell? ⟨X, 2, none⟩ = some (.slice (some ⟨gp, 0, none⟩) nz cp) := by rw [HNZ.out]; exact heap_cell (HXk.out W hW.2.1) 2
          simp only [execOp, e2]; go_simp
        refine ops_cons (gd rfl <| tx_pure rfl rfl (fun _ _ h => h.next) RA.refl (fun i ρ W hat hW => ?_)) ?_
        · have e2 : ρ (.tmp 16) = _ := hat.dep 16 (by kernel_rfl)
          have hcn := hat.con
          simp only [execOp, e2]; go_simp
        refine ops_cons (gd rfl <| tx_pure rfl rfl (fun _ _ h => h.next) RA.refl (fun i ρ W hat hW => ?_)) ?_
        · have e2 : ρ (.tmp 17) = _ := hat.dep 17 (by kernel_rfl)
          have c1 := (HG0.out W hW.2.1).1
          simp only [execOp, e2]; go_simp
        refine ops_cons (gd rfl <| tx_pure rfl rfl (fun _ _ h => h.next) RA.refl (fun i ρ W hat hW => ?_)) ?_
        · have e2 := hat.out 0 (by kernel_rfl)
          simp [Act.eval] at e2
          simp only [execOp, e2]; go_simp
        refine ops_cons (gd rfl <| tx_call rfl (fun i ρ W hi hat hW => ?_)) ?_
        · have e2 : ρ (.tmp 19) = _ := hat.dep 19 (by kernel_rfl)
          have hf := hat.fn
          have hcn := hat.con
          obtain ⟨q, hq1, hq2⟩ := hW.1
          have hi' : i < 12 := hi
          refine ⟨51, #[.pointer (some ⟨B, 0, none⟩), .int .i64 1], by simp only [execOp, e2]; go_simp, (l20Req_any B q 1 W hq2 (by have := HRP.out; omega) (by omega) (by omega)).mono ?_⟩
          rintro e W' ⟨v, rfl, r, pd, cd, pl, cl, p', rfl, hR, z1, z2, hr, hq, hK, hd, hl⟩
          have hs := hW.2.1.size
          exact ⟨_, rfl, hW.keep hK hr (by omega) hPA, RA.keep (sReq_up _ _) hK hPA, r, pd, cd, pl, cl, rfl, reqK_rd hR, fun b hb => Nat.le_trans hs (reqK_foot hR hd hl b hb).1, z1, z2⟩
        refine ops_cons (gd rfl <| tx_val rfl (fun i ρ W _ hat hW => ?_)) ?_
        · obtain ⟨r, pd, cd, pl, cl, e20, h1, h2, h3⟩ : kReqV w4.heap.size W (ρ (.tmp 20)) := hat.dep 20 (by kernel_rfl)
          unfold reqV at e20
          have hg := below_nw W (.cells #[.int .i64 r.id, .int .i64 r.kind, .int .i64 r.addr, .int .i64 r.many, .bool r.wrap, .slice pd r.data.length cd, .slice pl r.lanes.length cl] 40)
          exact ⟨.slice (some ⟨W.heap.size, 0, none⟩) 1 1, W.alloc (.cells #[.int .i64 r.id, .int .i64 r.kind, .int .i64 r.addr, .int .i64 r.many, .bool r.wrap, .slice pd r.data.length cd, .slice pl r.lanes.length cl] 40), by simp only [execOp, e20]; go_simp, hW.gr hg, RA.gr (sReq_up _ _) hg, ⟨W.heap.size, reqK r pd cd pl cl, rfl, hW.2.1.size, by simp, fun j u hj => box_cellsD (vs := yReqReq.cells (reqK r pd cd pl cl)) rfl hj, reqK r pd cd pl cl, rfl, yReqReq_law.rd_blw h1 hg, h2, by rw [reqK_plain]; exact h3⟩⟩
        refine ops_cons (gd rfl <| ca_app (K := yReqReq) yReqReq_law Try.underlying31 HII.out.1 HII.out.2.1 HII.out.2.2.1 HII.out.2.2.2 rfl (by decide) z0l (sReq_up _ _) hPA rfl (by omega) rfl rfl (by kernel_rfl) (by kernel_rfl) rfl rfl rfl) ?_
        refine ops_cons (gd rfl <| tx_pure rfl rfl (fun _ _ h => h.next) RA.refl (fun i ρ W hat hW => ?_)) ?_
        · have e2 : ρ (.tmp 14) = _ := hat.dep 14 (by kernel_rfl)
          have hcn := hat.con
          simp only [execOp, e2]; go_simp
        exact ops_nil
      · intro f W hW hf
        obtain ⟨g', c', cs, e22, ⟨y, rfl, hy, hyf, hyP⟩, hO, hc, hor⟩ : kAp (some ⟨g0, 0, none⟩) w4.heap.size 40 7 z0l.length (SReq w4.heap.size z0l) W (f 22) := hf 22 (by simp)
        have e23 : f 23 = .pointer (some ⟨gp, 0, none⟩) := hf 23 (by simp)
        clear hf
        obtain ⟨⟨q1, hq1, hrW⟩, hkW, _⟩ := hW
        simp at hq1
        have hGW := hGc W hkW
        obtain ⟨cc, dd⟩ := HG0.out W hkW
        have HE : Hid (BoS B R X (p + 800000) w (W.setCell ⟨gp, 0, none⟩ (.slice (some ⟨g', 0, none⟩) (z0l.length + 1) c'))) := Hid.intro (by
          obtain ⟨M, a1, a2, a3, a4, a5, a6⟩ := HD4.out.apart
          have ha0 := a5 _ (List.mem_cons_self ..)
          obtain ⟨y1, y2, y3⟩ := HD4.out.rdb
          have hB4 : B < M := by omega
          have st : ∀ c, c ≠ gp → (W.setCell ⟨gp, 0, none⟩ (.slice (some ⟨g', 0, none⟩) (z0l.length + 1) c')).heap[c]? = W.heap[c]? := fun c hc => heap_set_ne hc
          have hsz : (W.setCell ⟨gp, 0, none⟩ (.slice (some ⟨g', 0, none⟩) (z0l.length + 1) c')).heap.size = W.heap.size := by simp
          have hs4 := hkW.size
          have all : ∀ c, c < w4.heap.size → c ≠ B → c ≠ g0 → c ≠ gp → (W.setCell ⟨gp, 0, none⟩ (.slice (some ⟨g', 0, none⟩) (z0l.length + 1) c')).heap[c]? = w4.heap[c]? := fun c h1 h2 h3 h4 => (st c h4).trans (hkeep W hkW c h1 h2 h3)
          have hg0M := (ha0 g0 hff0).1
          have hgp' : g' ≠ gp := by
            rcases hor with e | e
            · cases e; exact hgg.1
            · omega
          have hgpX : gp ≠ X := HNX.out gp (List.mem_append.2 (.inr (List.mem_append.2 (.inr (List.mem_append.2 (.inl (by rw [blk_ofx (a := (⟨some ⟨gp, 0, none⟩, cp, (⟨some ⟨g0, 0, none⟩, z0c, z0l⟩ : Lst QT') :: zr⟩ : Lst (Lst QT'))) (by simp) rfl]; simp)))))))
          have hgpR : R < gp := HRB.out gp (List.mem_append.2 (.inr (List.mem_append.2 (.inr (List.mem_append.2 (.inl (by rw [blk_ofx (a := (⟨some ⟨gp, 0, none⟩, cp, (⟨some ⟨g0, 0, none⟩, z0c, z0l⟩ : Lst QT') :: zr⟩ : Lst (Lst QT'))) (by simp) rfl]; simp)))))))
          have hR4l := heap_lt HX4.out.2.1
          have hsepz := (List.pairwise_cons.1 HD4.out.sep).1
          have hrow := ORow.putFull (f := yReqReqS.cells) (s := 1) (fun a => yReqReqS_law.len a) hGW (j := 0) (by simp) (⟨some ⟨g', 0, none⟩, c', z0l ++ [y]⟩ : Lst QT')
          have ecs : yReqReqS.cells (⟨some ⟨g', 0, none⟩, c', z0l ++ [y]⟩ : Lst QT') = [.slice (some ⟨g', 0, none⟩) (z0l.length + 1) c'] := by
            show [Value.slice (some ⟨g', 0, none⟩) (z0l ++ [y]).length c'] = _
            simp
          rw [ecs] at hrow
          have hrow2 : ORow 31 1 (W.setCell ⟨gp, 0, none⟩ (.slice (some ⟨g', 0, none⟩) (z0l.length + 1) c')) gp cp 3 (((⟨some ⟨g', 0, none⟩, c', z0l ++ [y]⟩ : Lst QT') :: zr).flatMap yReqReqS.cells) := hrow
          have hz3 := H34.out.1
          have zrd : ∀ x ∈ zr, yReqReqS.rd (W.setCell ⟨gp, 0, none⟩ (.slice (some ⟨g', 0, none⟩) (z0l.length + 1) c')) x := fun x hx => rdReqs.of (HD4.out.zok x (List.mem_cons_of_mem _ hx)).rd (by rw [hsz]; exact hs4) (fun c hc => by
            have h1 := a5 x (List.mem_cons_of_mem _ hx) c (foot_ff x c hc)
            exact all c (rdReqs.lt (HD4.out.zok x (List.mem_cons_of_mem _ hx)).rd c hc) (by omega) (fun e => hsepz x hx g0 hff0 (by rw [← e]; exact foot_ff x c hc)) h1.2)
          have z0rd := (HD4.out.zok _ (List.mem_cons_self ..)).rd.2.2.2
          have ord : yReqReqS.rd (W.setCell ⟨gp, 0, none⟩ (.slice (some ⟨g', 0, none⟩) (z0l.length + 1) c')) (⟨some ⟨g', 0, none⟩, c', z0l ++ [y]⟩ : Lst QT') := row_rd (K := yReqReq) yReqReq_law (by rw [show (z0l ++ [y]).length = z0l.length + 1 by simp]; exact hO.of (st g' hgp')) hc (fun q hq => by
            rcases List.mem_append.1 hq with hq | hq
            · exact rdReq.of (z0rd q hq) (by rw [hsz]; exact hs4) (fun c hcc => by
                have h1 := ha0 c (List.mem_append.2 (.inr (List.mem_flatMap.2 ⟨q, hq, hcc⟩)))
                exact all c (rdReq.lt (z0rd q hq) c hcc) (by omega) (fun e => hn0 q hq (by rw [← e]; exact hcc)) h1.2)
            · have : q = y := by simpa using hq
              subst this
              exact rdReq.of hy (by rw [hsz]; exact Nat.le_refl _) (fun c hcc => st c (by have := hyf c hcc; omega)))
          refine ⟨m, ⟨some ⟨gl, 0, none⟩, lac, lal⟩, ⟨some ⟨gp, 0, none⟩, cp, (⟨some ⟨g', 0, none⟩, c', z0l ++ [y]⟩ : Lst QT') :: zr⟩, q1, ?_, (st R (by omega)).trans ((hkeep W hkW R hR4l (by omega) (by have := (HNF.out _ (List.mem_cons_self ..) g0 hff0).2; omega)).trans HX4.out.2.1), ⟨rdRngs.of y1 (by rw [hsz]; exact hs4) (fun c hcc => all c (rdRngs.lt y1 c hcc) (by have := a2 c hcc; omega) (by have := a2 c hcc; omega) (by have := a2 c hcc; omega)), rdI.of y2 (by rw [hsz]; exact hs4) (fun c hcc => all c (rdI.lt y2 c hcc) (by have := a3 c hcc; omega) (by have := a3 c hcc; omega) (by have := a3 c hcc; omega)), ?_⟩, ?_, by have := HRP.out; omega, hrW.other (x := ⟨gp, 0, none⟩) (by show B < gp; omega) _, ?_, ?_⟩
          · exact (st X (fun e => hgpX e.symm)).trans (HXk.out W hkW)
          · refine row_rd (K := yReqReqS) yReqReqS_law ?_ HD4.out.cpm (fun x hx => ?_)
            · have e3 : ((⟨some ⟨g', 0, none⟩, c', z0l ++ [y]⟩ : Lst QT') :: zr).length = 3 := by simpa using hz3
              rw [e3]; exact hrow2
            · rcases List.mem_cons.1 hx with rfl | hx
              · exact ord
              · exact zrd x hx
          · have hb := HD4.out.sz
            refine ⟨hb.1, hb.2.1, by simpa using hb.2.2.1, fun x hx => ?_⟩
            rcases List.mem_cons.1 hx with rfl | hx
            · refine ⟨by simp; omega, fun q hq => ?_⟩
              rcases List.mem_append.1 hq with hq | hq
              · exact (hb.2.2.2 _ (List.mem_cons_self ..)).2 q hq
              · have : q = y := by simpa using hq
                subst this; exact hyP
            · exact hb.2.2.2 x (List.mem_cons_of_mem _ hx)
          · have h1 := HK4.out
            have hkk := (HXC.out _ h1).2.2
            have hw4 := hkk.size
            exact (⟨hkW.os.trans hkk.os, hkW.tape.trans hkk.tape, hkW.output.trans hkk.output, Nat.le_trans hw4 hs4, fun c hcc hn => (hkeep W hkW c (by omega) hn (by have := (HNF.out _ (List.mem_cons_self ..) g0 hff0).2; omega)).trans (hkk.block c hcc hn)⟩ : Keep B w W).setCell (p := ⟨gp, 0, none⟩) (.inr (by show w.heap.size ≤ gp; omega)) _
          · intro c hcc
            rcases List.mem_append.1 hcc with hcc | hcc
            · exact HRB.out c (List.mem_append.2 (.inl hcc))
            rcases List.mem_append.1 hcc with hcc | hcc
            · exact HRB.out c (List.mem_append.2 (.inr (List.mem_append.2 (.inl hcc))))
            rcases rows_foot c hcc with rfl | ⟨x, hx, hm⟩
            · exact hgpR
            rcases List.mem_cons.1 hx with rfl | hx
            · rcases List.mem_append.1 (foot_ff _ c hm) with hm | hm
              · simp at hm
                subst hm
                rcases hor with e | e
                · cases e; exact (HNF.out _ (List.mem_cons_self ..) g0 hff0).2
                · omega
              · obtain ⟨q, hq, hm2⟩ := List.mem_flatMap.1 hm
                rcases List.mem_append.1 hq with hq | hq
                · exact (HNF.out _ (List.mem_cons_self ..) c (List.mem_append.2 (.inr (List.mem_flatMap.2 ⟨q, hq, hm2⟩)))).2
                · have e9 : q = y := by simpa using hq
                  rw [e9] at hm2
                  have := hyf c hm2; omega
            · exact (HNF.out _ (List.mem_cons_of_mem _ hx) c (foot_ff x c hm)).2)
        clear HD4 HRB HXC HK4 HR4 HX4 HNX HNF hkW hrW hO hor hGW hGc hkeep hPA hO0 HXk HG0 hy hyf
        simp only [fill, e22, e23]
        go_simp
        go_wp2
        go_meet
        case rel => exact HE.out
  case rest =>
    obtain ⟨m, la, ps, q, hX, hR, hrd, hbs, hq, hrr, hkk, hft⟩ := hcut
    have x0 : wc.cell? ⟨X, 0, none⟩ = some (.slice m.p m.l.length m.c) := heap_cell hX 0
    have x1 : wc.cell? ⟨X, 1, none⟩ = some (.slice la.p la.l.length la.c) := heap_cell hX 1
    have x2 : wc.cell? ⟨X, 2, none⟩ = some (.slice ps.p ps.l.length ps.c) := heap_cell hX 2
    have r0 : wc.cell? ⟨R, 0, none⟩ = some (.slice none 0 0) := heap_cell hR 0
    have r1 : wc.cell? ⟨R, 1, none⟩ = some (.slice none 0 0) := heap_cell hR 1
    have r2 : wc.cell? ⟨R, 2, none⟩ = some (.slice none 0 0) := heap_cell hR 2
    have g0 : wc.frozen? ⟨R, 0, none⟩ = false := heap_free hR 0
    have g1 : wc.frozen? ⟨R, 1, none⟩ = false := heap_free hR 1
    have g2 : wc.frozen? ⟨R, 2, none⟩ = false := heap_free hR 2
    have hf := heap_set (heap_set (heap_set hR 0 (.slice m.p m.l.length m.c)) 1 (.slice la.p la.l.length la.c)) 2 (.slice ps.p ps.l.length ps.c)
    have s0 := heap_cell hf 0
    have s1 := heap_cell hf 1
    have s2 := heap_cell hf 2
    simp at s0 s1 s2
    have HFIN : Hid (yBusCfg.rd (((wc.setCell ⟨R, 0, none⟩ (.slice m.p m.l.length m.c)).setCell ⟨R, 1, none⟩ (.slice la.p la.l.length la.c)).setCell ⟨R, 2, none⟩ (.slice ps.p ps.l.length ps.c)) (m, la, ps) ∧ BSz (m, la, ps) ∧ (∀ b ∈ yBusCfg.foot (m, la, ps), w.heap.size ≤ b) ∧ ∃ p', Rd (((wc.setCell ⟨R, 0, none⟩ (.slice m.p m.l.length m.c)).setCell ⟨R, 1, none⟩ (.slice la.p la.l.length la.c)).setCell ⟨R, 2, none⟩ (.slice ps.p ps.l.length ps.c)) B p' ∧ p' ≤ p + 800000 ∧ Keep B w (((wc.setCell ⟨R, 0, none⟩ (.slice m.p m.l.length m.c)).setCell ⟨R, 1, none⟩ (.slice la.p la.l.length la.c)).setCell ⟨R, 2, none⟩ (.slice ps.p ps.l.length ps.c))) := Hid.intro (by
      have hne : ∀ x, x ≠ R → (((wc.setCell ⟨R, 0, none⟩ (.slice m.p m.l.length m.c)).setCell ⟨R, 1, none⟩ (.slice la.p la.l.length la.c)).setCell ⟨R, 2, none⟩ (.slice ps.p ps.l.length ps.c)).heap[x]? = wc.heap[x]? := fun x hx => (heap_set_ne hx).trans ((heap_set_ne hx).trans (heap_set_ne hx))
      have hsz : (((wc.setCell ⟨R, 0, none⟩ (.slice m.p m.l.length m.c)).setCell ⟨R, 1, none⟩ (.slice la.p la.l.length la.c)).setCell ⟨R, 2, none⟩ (.slice ps.p ps.l.length ps.c)).heap.size = wc.heap.size := by simp
      refine ⟨rdBus.of hrd (by rw [hsz]; exact Nat.le_refl _) (fun c hc => hne c (by have := hft c hc; omega)), hbs, fun c hc => by have := hft c hc; omega, q, hrr.of (fun c hc => hne c (by omega)) (by rw [hsz]; exact Nat.le_refl _), hq, hkk.os, hkk.tape, hkk.output, by rw [hsz]; exact hkk.size, fun c hc hn => (hne c (by omega)).trans (hkk.block c hc hn)⟩)
    clear hf hX hR hrd hbs hrr hkk hft HRB HXC HNX HNF HD3 HK3 HR3 H34 HMm
    go_wp2
    refine bodyPost_ret (v := .agg #[.slice m.p m.l.length m.c, .slice la.p la.l.length la.c, .slice ps.p ps.l.length ps.c]) (by simp [results, Try.results27, go_sem, s0, s1, s2]) rfl ⟨m, la, ps, rfl, HFIN.out⟩

end Go.Proofs.Ytlifkfemdknndaa

namespace Go.Proofs.Ytlifkfemdknndaa
open Go.RowKit
set_option linter.unusedSimpArgs false
set_option linter.unusedVariables false

set_option maxRecDepth 100000 in
set_option maxHeartbeats 4000000 in
theorem drawBusOk_any (a : Option Addr) (len cap : Nat) (w : World) (hc : len ≤ cap) (hm : cap ≤ 9223372036854775807) (hb : Bytes w w.heap.size a len) :
    Calls Try.prog 7 #[.slice a len cap] w fun e w' => ∃ m la ps, e = .returned (yBusCfg.val (m, la, ps)) ∧ yBusCfg.rd w' (m, la, ps) ∧ BSz (m, la, ps) ∧ Below w.heap.size w w' := by
  go_enter Try.func7, Try.ntmps7
  go_wp2_with fail
  refine (open_any a len cap _ hc hm (bytes_alloc hb _)).mono ?_
  rintro e w1 ⟨rfl, hr1, hb1⟩
  have hs1 := hb1.size
  simp only [World.size_alloc] at hr1 hs1 ⊢
  have cR : w1.heap[w.heap.size]? = some (.cells #[.slice none 0 0, .slice none 0 0, .slice none 0 0] 27 (0, 0)) := (hb1.block w.heap.size (by simp)).trans (nw_k _ rfl)
  have hb1' : Below w.heap.size w w1 := ((Below.refl _ w).alloc (Nat.le_refl _) _).trans (hb1.mono (by simp))
  clear hb1
  go_wp2_with fail
  refine (l20BusOr_any (w.heap.size + 1) 0 2 w1 hr1 (by omega) (by omega) (by omega)).mono ?_
  rintro e w2 ⟨m, la, ps, rfl, hrd, hsz, hft, p', hr2, hp2, hK2⟩
  rw [yBusCfg_val]
  have hlt := hr1.lt
  have hK := hK2
  clear hK2
  have cR2 := (hK.block w.heap.size (by omega) (by omega)).trans cR
  have hb2 : Below w.heap.size w w2 := hb1'.trans ⟨hK.os, hK.tape, hK.output, hK.size, fun k hk => hK.block k (by omega) (by omega)⟩
  have r0 : w2.cell? ⟨w.heap.size, 0, none⟩ = some (.slice none 0 0) := heap_cell cR2 0
  have r1 : w2.cell? ⟨w.heap.size, 1, none⟩ = some (.slice none 0 0) := heap_cell cR2 1
  have r2 : w2.cell? ⟨w.heap.size, 2, none⟩ = some (.slice none 0 0) := heap_cell cR2 2
  have g0 : w2.frozen? ⟨w.heap.size, 0, none⟩ = false := heap_free cR2 0
  have g1 : w2.frozen? ⟨w.heap.size, 1, none⟩ = false := heap_free cR2 1
  have g2 : w2.frozen? ⟨w.heap.size, 2, none⟩ = false := heap_free cR2 2
  have hf := heap_set (heap_set (heap_set cR2 0 (.slice m.p m.l.length m.c)) 1 (.slice la.p la.l.length la.c)) 2 (.slice ps.p ps.l.length ps.c)
  have s0 := heap_cell hf 0
  have s1 := heap_cell hf 1
  have s2 := heap_cell hf 2
  simp at s0 s1 s2
  have HFIN : Hid (yBusCfg.rd (((w2.setCell ⟨w.heap.size, 0, none⟩ (.slice m.p m.l.length m.c)).setCell ⟨w.heap.size, 1, none⟩ (.slice la.p la.l.length la.c)).setCell ⟨w.heap.size, 2, none⟩ (.slice ps.p ps.l.length ps.c)) (m, la, ps) ∧ BSz (m, la, ps) ∧ Below w.heap.size w (((w2.setCell ⟨w.heap.size, 0, none⟩ (.slice m.p m.l.length m.c)).setCell ⟨w.heap.size, 1, none⟩ (.slice la.p la.l.length la.c)).setCell ⟨w.heap.size, 2, none⟩ (.slice ps.p ps.l.length ps.c))) := Hid.intro (by
    have hne : ∀ x, x ≠ w.heap.size → (((w2.setCell ⟨w.heap.size, 0, none⟩ (.slice m.p m.l.length m.c)).setCell ⟨w.heap.size, 1, none⟩ (.slice la.p la.l.length la.c)).setCell ⟨w.heap.size, 2, none⟩ (.slice ps.p ps.l.length ps.c)).heap[x]? = w2.heap[x]? := fun x hx => (heap_set_ne hx).trans ((heap_set_ne hx).trans (heap_set_ne hx))
    refine ⟨rdBus.of hrd (by simp) (fun c hc => hne c (by have := hft c hc; omega)), hsz, ?_⟩
    exact ((hb2.setCell (p := ⟨w.heap.size, 0, none⟩) (Nat.le_refl _) _).setCell (p := ⟨w.heap.size, 1, none⟩) (Nat.le_refl _) _).setCell (p := ⟨w.heap.size, 2, none⟩) (Nat.le_refl _) _)
  clear hf cR cR2 hrd hsz hft hr2 hK hb2 hb1' hr1
  go_wp2
  refine bodyPost_ret (v := .agg #[.slice m.p m.l.length m.c, .slice la.p la.l.length la.c, .slice ps.p ps.l.length ps.c]) (by simp [results, Try.results7, go_sem, s0, s1, s2]) rfl ⟨m, la, ps, rfl, HFIN.out⟩

set_option maxRecDepth 100000 in
set_option maxHeartbeats 4000000 in
theorem drawBusAlone_any (a : Option Addr) (len cap : Nat) (w : World) (hc : len ≤ cap) (hm : cap ≤ 9223372036854775807) (hb : Bytes w w.heap.size a len) :
    Calls Try.prog 11 #[.slice a len cap] w fun e w' => ∃ m la ps who, e = .returned (.tuple #[yBusCfg.val (m, la, ps), .int .i64 who]) ∧ -1 ≤ who ∧ who ≤ 3 ∧ yBusCfg.rd w' (m, la, ps) ∧ BSz (m, la, ps) ∧ Below w.heap.size w w' := by
  go_enter Try.func11, Try.ntmps11
  go_wp2_with fail
  refine (open_any a len cap _ hc hm (bytes_alloc hb _)).mono ?_
  rintro e w1 ⟨rfl, hr1, hb1⟩
  have hs1 := hb1.size
  simp only [World.size_alloc] at hr1 hs1 ⊢
  have cR : w1.heap[w.heap.size]? = some (.cells #[.slice none 0 0, .slice none 0 0, .slice none 0 0] 27 (0, 0)) := (hb1.block w.heap.size (by simp)).trans (nw_k _ rfl)
  have hb1' : Below w.heap.size w w1 := ((Below.refl _ w).alloc (Nat.le_refl _) _).trans (hb1.mono (by simp))
  clear hb1
  go_wp2_with fail
  refine (l20BusOr_any (w.heap.size + 1) 0 9 w1 hr1 (by omega) (by omega) (by omega)).mono ?_
  rintro e w2 ⟨m, la, ps, rfl, hrd, hsz, hft, p', hr2, hp2, hK2⟩
  rw [yBusCfg_val]
  have hlt := hr1.lt
  go_wp2_with fail
  refine (pick_at hr2 (by omega) 5 (by omega) (by omega)).mono ?_
  rintro e w3 ⟨kk, a3, b3, rfl, hr3, hK3⟩
  have hK := hK2.trans hK3
  have hsk : Hid (yBusCfg.rd w3 (m, la, ps)) := Hid.intro (rdBus.of hrd hK3.size (fun c hcc => hK3.block c (rdBus.lt hrd c hcc) (by have := hft c hcc; omega)))
  clear hrd hr2 hK2 hK3
  have hrd := hsk.out
  have hr2 := hr3
  clear hr3 hsk
  have cR2 := (hK.block w.heap.size (by omega) (by omega)).trans cR
  have hb2 : Below w.heap.size w w3 := hb1'.trans ⟨hK.os, hK.tape, hK.output, hK.size, fun k hk => hK.block k (by omega) (by omega)⟩
  have r0 : w3.cell? ⟨w.heap.size, 0, none⟩ = some (.slice none 0 0) := heap_cell cR2 0
  have r1 : w3.cell? ⟨w.heap.size, 1, none⟩ = some (.slice none 0 0) := heap_cell cR2 1
  have r2 : w3.cell? ⟨w.heap.size, 2, none⟩ = some (.slice none 0 0) := heap_cell cR2 2
  have g0 : w3.frozen? ⟨w.heap.size, 0, none⟩ = false := heap_free cR2 0
  have g1 : w3.frozen? ⟨w.heap.size, 1, none⟩ = false := heap_free cR2 1
  have g2 : w3.frozen? ⟨w.heap.size, 2, none⟩ = false := heap_free cR2 2
  have hf := heap_set (heap_set (heap_set cR2 0 (.slice m.p m.l.length m.c)) 1 (.slice la.p la.l.length la.c)) 2 (.slice ps.p ps.l.length ps.c)
  have s0 := heap_cell hf 0
  have s1 := heap_cell hf 1
  have s2 := heap_cell hf 2
  simp at s0 s1 s2
  have HFIN : Hid (yBusCfg.rd (((w3.setCell ⟨w.heap.size, 0, none⟩ (.slice m.p m.l.length m.c)).setCell ⟨w.heap.size, 1, none⟩ (.slice la.p la.l.length la.c)).setCell ⟨w.heap.size, 2, none⟩ (.slice ps.p ps.l.length ps.c)) (m, la, ps) ∧ BSz (m, la, ps) ∧ Below w.heap.size w (((w3.setCell ⟨w.heap.size, 0, none⟩ (.slice m.p m.l.length m.c)).setCell ⟨w.heap.size, 1, none⟩ (.slice la.p la.l.length la.c)).setCell ⟨w.heap.size, 2, none⟩ (.slice ps.p ps.l.length ps.c))) := Hid.intro (by
    have hne : ∀ x, x ≠ w.heap.size → (((w3.setCell ⟨w.heap.size, 0, none⟩ (.slice m.p m.l.length m.c)).setCell ⟨w.heap.size, 1, none⟩ (.slice la.p la.l.length la.c)).setCell ⟨w.heap.size, 2, none⟩ (.slice ps.p ps.l.length ps.c)).heap[x]? = w3.heap[x]? := fun x hx => (heap_set_ne hx).trans ((heap_set_ne hx).trans (heap_set_ne hx))
    refine ⟨rdBus.of hrd (by simp) (fun c hc => hne c (by have := hft c hc; omega)), hsz, ?_⟩
    exact ((hb2.setCell (p := ⟨w.heap.size, 0, none⟩) (Nat.le_refl _) _).setCell (p := ⟨w.heap.size, 1, none⟩) (Nat.le_refl _) _).setCell (p := ⟨w.heap.size, 2, none⟩) (Nat.le_refl _) _)
  clear hf cR cR2 hrd hsz hft hr2 hK hb2 hb1' hr1
  go_wp2
  refine bodyPost_ret (v := .tuple #[.agg #[.slice m.p m.l.length m.c, .slice la.p la.l.length la.c, .slice ps.p ps.l.length ps.c], .int .i64 (kk - 1)]) (by simp [results, Try.results11, go_sem, s0, s1, s2]) rfl ⟨m, la, ps, kk - 1, rfl, by omega, by omega, HFIN.out⟩

end Go.Proofs.Ytlifkfemdknndaa
