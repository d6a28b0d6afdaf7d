/- Texts RMul, RShared: each says in its own first comment what it proves. -/
import Derived.Test.YthjhjgglkooafaaGreatDoorM28
import Derived.Test.YthjhjgglkooafaaGreatDoorM12
/- The reference's Mul and Divide. -/
namespace Go.Proofs.YthjhjgglkooafaaGreatDoor
open Go.RowKit
open Go.Lib (nDigits itoa decDigits)


































































































end Go.Proofs.YthjhjgglkooafaaGreatDoor

/- The reference's Shared. -/
namespace Go.Proofs.YthjhjgglkooafaaGreatDoor
open Go.RowKit
open Go.Lib (nDigits itoa decDigits)

theorem nfmod (m n : Nat) : ((m : Int)).fmod (n : Int) = ((m % n : Nat) : Int) := by
  rw [Int.fmod_eq_emod_of_nonneg _ (by omega)]; rfl
theorem ntmod (m n : Nat) : ((m : Int)).tmod (n : Int) = ((m % n : Nat) : Int) := rfl
theorem gcd_next (X Y : Nat) : Nat.gcd Y (X % Y) = Nat.gcd X Y := by rw [Nat.gcd_comm X Y, Nat.gcd_rec Y X, Nat.gcd_comm]

set_option maxRecDepth 100000 in
set_option maxHeartbeats 2000000 in
theorem shared_any (x y : Int) (w : World) (hx : Ok x) (hy : Ok y) :
    Calls Tryz.prog 22 #[.string (S x), .string (S y)] w fun e w' => e = .returned (.string (S ((Nat.gcd x.natAbs y.natAbs : Nat) : Int))) ∧ Kp [] w w' := by
  have sx : (S x).size ≤ 1025 := abs_sz hx
  have sy : (S y).size ≤ 1025 := abs_sz hy
  have q2 := size_S x (by omega)
  have q3 := size_S y (by omega)
  have ax : (S (x.natAbs : Int)).size ≤ 1025 := abs_sz (by rw [Int.natAbs_natCast]; exact hx)
  have ay : (S (y.natAbs : Int)).size ≤ 1025 := abs_sz (by rw [Int.natAbs_natCast]; exact hy)
  have q4 := Lib.hid (fun W => signed_any x.natAbs false W (by omega))
  have q5 := Lib.hid (fun W => signed_any y.natAbs false W (by omega))
  rw [if_neg (by decide)] at q4 q5
  have Hx := Lib.hid hx
  have Hy := Lib.hid hy
  unfold Ok at Hx Hy
  generalize S x = s at *
  generalize S y = t at *
  clear sx sy ax ay hx hy
  generalize x.natAbs = u at *
  generalize y.natAbs = v at *
  obtain ⟨G, hG⟩ : ∃ G, Nat.gcd u v = G := ⟨_, rfl⟩
  rw [hG]
  have HG := Lib.hid hG
  clear hG
  go_enter Tryz.func22, Tryz.ntmps22
  go_wp2_with fail
  refine (q2.out _).mono ?_
  rintro e w1 ⟨rfl, rfl⟩
  go_wp2_with fail
  with_reducible refine (q4.out _).mono ?_
  rintro e w1 ⟨rfl, rfl⟩
  go_wp2_with fail
  refine (q3.out _).mono ?_
  rintro e w1 ⟨rfl, rfl⟩
  go_wp2_with fail
  with_reducible refine (q5.out _).mono ?_
  rintro e w1 ⟨rfl, rfl⟩
  go_wp2
  go_loopg [0, 1] v (fun gk s0 s1 wr => ∃ X : Nat, s0 = .string (S (X : Int)) ∧ s1 = .string (S (gk : Int)) ∧ Hid (nDigits X ≤ 1024) ∧ Hid (nDigits gk ≤ 1024) ∧ Hid (Nat.gcd X gk = G) ∧ Kp [] w wr)
  case atStart => exact ⟨u, rfl, rfl, Hx, Hy, HG, Kp.refl _ _⟩
  case round =>
    obtain ⟨X, rfl, rfl, dX, dY, hg, hk⟩ := hrel
    obtain ⟨Y, hY⟩ : ∃ Y, Y = gk := ⟨_, rfl⟩
    subst hY
    clear q2 q3 q4 q5
    by_cases h0 : Y = 0
    · subst h0
      rw [show ((0 : Nat) : Int) = 0 from rfl, S_zero] at *
      have hXG : G = X := by
        have := hg.out
        rw [Nat.gcd_zero_right] at this
        exact this.symm
      subst hXG
      clear hg dX dY HG Hx Hy
      go_wp2
      go_ret
      exact ⟨rfl, hk⟩
    · have hne : ((S (Y : Int)).toList == [48]) = false := by simpa using S_ne_zero h0
      have szX : (S (X : Int)).size ≤ 1025 := abs_sz (by rw [Int.natAbs_natCast]; exact dX.out)
      have szY : (S (Y : Int)).size ≤ 1025 := abs_sz (by rw [Int.natAbs_natCast]; exact dY.out)
      by_cases hb : Brief (X : Int) (Y : Int)
      · have q1 := Lib.hid (fun W => brief_S (X : Int) (Y : Int) W (by omega) (by omega) hb)
        obtain ⟨_, x2, _, y2⟩ := brief_lt hb
        have hX : X < 1000000000000000000 := by omega
        have hY : Y < 1000000000000000000 := by omega
        clear x2 y2 szX szY hb dX dY
        generalize S (X : Int) = r1 at *
        generalize S (Y : Int) = r2 at *
        go_wp2_with fail
        with_reducible refine (q1.out _).mono ?_
        rintro e w2 ⟨rfl, rfl⟩
        clear q1 hne h0 HG Hx Hy
        go_wp2
        go_loopg [5, 6] Y (fun gm s5 s6 wi => ∃ m : Nat, s5 = .int .i64 (m : Int) ∧ s6 = .int .i64 (gm : Int) ∧ m < 1000000000000000000 ∧ gm < 1000000000000000000 ∧ Hid (Nat.gcd m gm = G) ∧ Kp [] w wi)
        case atStart => exact ⟨X, rfl, rfl, hX, hY, hg, hk⟩
        case round =>
          obtain ⟨m, rfl, rfl, hm, hn, hgi, hki⟩ := hrel
          clear hX hY hg hk
          by_cases hz : gk = 0
          · subst hz
            have hmG : G = m := by
              have := hgi.out
              rw [Nat.gcd_zero_right] at this
              exact this.symm
            subst hmG
            clear hgi
            have q7 := Lib.hid (fun W => of_any (G : Int) W (by omega) (by omega))
            obtain ⟨r, hr⟩ : ∃ r, S (G : Int) = r := ⟨_, rfl⟩
            rw [hr] at q7
            have Hr := Lib.hid hr
            clear hr
            rw [show ((0 : Nat) : Int) = 0 from rfl] at *
            go_wp2_with fail
            with_reducible refine (q7.out _).mono ?_
            rintro e w7 ⟨rfl, k7⟩
            go_wp2
            go_ret
            exact ⟨by rw [Hr.out]; rfl, hki.trans k7⟩
          · have hp : (0 : Int) < (gk : Int) := by omega
            have hne2 : ((gk : Int) == 0) = false := by simp; omega
            have hg3 : Hid (Nat.gcd gk (m % gk) = G) := by show _ = _; rw [gcd_next]; exact hgi.out
            have hlt : m % gk < gk := Nat.mod_lt _ (by omega)
            have ht := ntmod m gk
            obtain ⟨Z, hZ⟩ : ∃ Z, m % gk = Z := ⟨_, rfl⟩
            rw [hZ] at hg3 hlt ht
            clear hZ hgi
            have hw1 : IntKind.i64.wrap (Z : Int) = (Z : Int) := IntWalk.i64_in _ (by omega)
            go_wp2
            go_quiet (fail)
            go_wp2
            go_roundg Z
            case measure => omega
            case rel => exact ⟨gk, rfl, rfl, by omega, by omega, hg3, hki.drewN _⟩
      · have q1 := Lib.hid (fun W => brief_not (X : Int) (Y : Int) W (by omega) (by omega) hb)
        have q6 := Lib.hid (fun W => parted_any (X : Int) (Y : Int) W (by omega) (by rw [Int.natAbs_natCast]; exact dX.out) (by rw [Int.natAbs_natCast]; exact dY.out))
        rw [nfmod] at q6
        have dZ : Hid (nDigits (X % Y) ≤ 1024) := Nat.le_trans (nd_mono (Nat.le_of_lt (Nat.mod_lt _ (by omega)))) dY.out
        have hg2 : Hid (Nat.gcd Y (X % Y) = G) := by show _ = _; rw [gcd_next]; exact hg.out
        have hlt : X % Y < Y := Nat.mod_lt _ (by omega)
        clear hg HG Hx Hy hb dX szX szY
        generalize S ((X : Int).fdiv (Y : Int)) = D at *
        obtain ⟨Z, hZ⟩ : ∃ Z, X % Y = Z := ⟨_, rfl⟩
        rw [hZ] at q6 dZ hg2 hlt
        clear hZ
        go_wp2_with fail
        with_reducible refine (q1.out _).mono ?_
        rintro e w2 ⟨rfl, rfl⟩
        go_wp2_with fail
        with_reducible refine (q6.out _).mono ?_
        rintro e w3 ⟨rfl, k3⟩
        go_wp2
        go_roundg Z
        case measure => omega
        case rel => exact ⟨Y, rfl, rfl, dY, dZ, hg2, hk.trans k3⟩
end Go.Proofs.YthjhjgglkooafaaGreatDoor
