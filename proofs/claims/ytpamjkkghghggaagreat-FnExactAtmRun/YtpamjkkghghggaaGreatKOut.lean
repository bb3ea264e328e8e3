/-
  What AtmDo answers, as one value of a kind.
-/
import Derived.Test.YtpamjkkghghggaaGreatSpcGM
namespace Go.Proofs.YtpamjkkghghggaaGreat
open Go.RowKit
set_option linter.unusedSimpArgs false
set_option linter.unusedVariables false

theorem AtmOut.kt {M t : Nat} {w w' : World} {s : Stt} {x : Rsp} {pw ph px : Option Addr} {cw ch cx : Nat} (h : AtmOut M w s x pw cw ph ch px cx) (hk : KT t w w') (ht : t ≠ 3) : AtmOut M w' s x pw cw ph ch px cx :=
  ⟨h.words.kt hk ht, h.holds.kt hk ht, h.data.kt hk ht, h.cw1, h.cw2, h.ch1, h.ch2, h.cx1, h.cx2, h.wh, h.wx, h.hx⟩
/-- what AtmDo answers, as one value -/
def kOut (M : Nat) (zs : Stt) (zr : Rsp) : World → Value → Prop := fun W v => ∃ qw dw qh dh qx dx, v = .tuple #[.agg #[.slice qw zs.words.length dw, .slice qh zs.holds.length dh], .agg #[.int .i64 zr.id, .int .i64 zr.code, .slice qx zr.data.length dx]] ∧ AtmOut M W zs zr qw dw qh dh qx dx
theorem kOut_gr {M : Nat} {zs : Stt} {zr : Rsp} : ∀ w w' v, Gr w w' → kOut M zs zr w v → kOut M zs zr w' v := by
  rintro w w' v hg ⟨qw, dw, qh, dh, qx, dx, e, h⟩; exact ⟨qw, dw, qh, dh, qx, dx, e, h.below hg⟩
theorem kOut_kt {M : Nat} {zs : Stt} {zr : Rsp} {t : Nat} (ht : t ≠ 3) : ∀ w w' v, KT t w w' → kOut M zs zr w v → kOut M zs zr w' v := by
  rintro w w' v hg ⟨qw, dw, qh, dh, qx, dx, e, h⟩; exact ⟨qw, dw, qh, dh, qx, dx, e, h.kt hg ht⟩
theorem kOut_t {M : Nat} {zs : Stt} {zr : Rsp} : ∀ W v, kOut M zs zr W v → ∃ va vb, v = .tuple #[va, vb] := by
  rintro W v ⟨qw, dw, qh, dh, qx, dx, e, _⟩; exact ⟨_, _, e⟩
theorem kOut_s {M : Nat} {zs : Stt} {zr : Rsp} : ∀ W v, kOut M zs zr W v → ∃ p0 n0 k0 p1 n1 k1 v2, v = .tuple #[.agg #[.slice p0 n0 k0, .slice p1 n1 k1], v2] := by
  rintro W v ⟨qw, dw, qh, dh, qx, dx, e, _⟩; exact ⟨_, _, _, _, _, _, _, e⟩
theorem kOut_x {M : Nat} {zs : Stt} {zr : Rsp} : ∀ W v, kOut M zs zr W v → ∃ va i0 i1 p2 n2 k2, v = .tuple #[va, .agg #[.int .i64 i0, .int .i64 i1, .slice p2 n2 k2]] := by
  rintro W v ⟨qw, dw, qh, dh, qx, dx, e, _⟩; exact ⟨_, _, _, _, _, _, e⟩

end Go.Proofs.YtpamjkkghghggaaGreat
