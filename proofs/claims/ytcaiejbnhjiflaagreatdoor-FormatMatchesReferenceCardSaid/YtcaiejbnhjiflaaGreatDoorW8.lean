/-
  The contract of takes.
-/
import Derived.Test.YtcaiejbnhjiflaaGreatDoorW7
import Derived.BigRegion
namespace Go.Proofs.YtcaiejbnhjiflaaGreatDoor
open Go.RowKit Go.ChangeMaps
namespace Fm

theorem isFit_s (x : W) (u : World) : Calls Tryz.prog 48 #[.string (sB x)] u fun e w' => e = .returned (.bool (fitW x)) ∧ Below u.heap.size u w' := isFit_any (sB x) u
set_option maxHeartbeats 2000000 in
theorem clWord (u : World) (bx : Nat) (x : W) (_hb : bx < u.heap.size) (hc : u.cell? ⟨bx, 0, none⟩ = some (fnV 48)) :
    Calls Tryz.prog 85 #[sV x, .pointer (some ⟨bx, 0, none⟩)] u fun e w' => e = .returned (.bool (!fitW x)) ∧ Below u.heap.size u w' := by
  have C := hid (isFit_s x u)
  obtain ⟨r, hr⟩ : ∃ r, r = fitW x := ⟨_, rfl⟩
  rw [← hr] at C ⊢
  clear hr
  unfold fnV at hc
  unfold sV
  go_enter Tryz.func85, Tryz.ntmps85
  go_wp2_with fail
  refine C.out.mono ?_
  rintro e w1 ⟨rfl, hb⟩
  go_wp2
  go_ret
  exact ⟨rfl, hb⟩
theorem allW_any (ws : List W) (A : Option Addr) (cap : Nat) (w : World) (hl : ws.length ≤ 4096) (hW : RdW w A ws cap) :
    Calls Tryz.prog 64 #[.slice A ws.length cap, .func (.func 48) #[] #[]] w fun e w' => e = .returned (.bool (ws.all fitW)) ∧ Below w.heap.size w w' :=
  allS_any ws fitW _ A cap w hl hW clWord

theorem can_lt {p : Pt} {ws : List W} (h : ws.length < 1) : canB p ws = false := by
  cases hc : canB p ws
  · rfl
  · have := can_len hc; omega
theorem can_gt4 {p : Pt} {ws : List W} (h : 4 < ws.length) : canB p ws = false := by
  cases hc : canB p ws
  · rfl
  · have := can_len hc; omega
theorem can_gt1 {p : Pt} {ws : List W} (hp : sevB p = false) (h : 1 < ws.length) : canB p ws = false := by
  cases hc : canB p ws
  · rfl
  · have := can_one hc hp; omega
theorem can_nofit {p : Pt} {ws : List W} (h : ws.all fitW = false) : canB p ws = false := by
  cases hc : canB p ws
  · rfl
  · rw [List.all_eq_true.2 (can_fit hc)] at h; cases h
theorem can_k1 (t : W) {x : W} (hx : fitW x = true) : canB ⟨1, t⟩ [x] = decide (upL x = upL t) := by
  unfold canB; simp [hx]
theorem can_k2 (t : W) {x : W} (hx : fitW x = true) : canB ⟨2, t⟩ [x] = isNum x := by
  unfold canB; simp [hx]
theorem can_k3 (t : W) {x : W} (hx : fitW x = true) : canB ⟨3, t⟩ [x] = codeW x t := by
  unfold canB; simp [hx]
theorem can_sev {k : Int} (t : W) {ws : List W} (hk : 4 ≤ k) (h1 : 1 ≤ ws.length) (h4 : ws.length ≤ 4) (h : ∀ w ∈ ws, fitW w = true) : canB ⟨k, t⟩ ws = true :=
  can_of h1 (by simp only; rw [if_pos hk]; exact h4) h (by simp only; rw [if_neg (by omega), if_neg (by omega), if_neg (by omega)])

set_option maxRecDepth 100000 in
set_option maxHeartbeats 16000000 in
theorem takes1_any (t : W) (hp : partB ⟨1, t⟩ = true) (ws : List W) (A : Option Addr) (cap S M : Nat) (F : Int → Nat) (rv : Value) (a : Ad) (w : World) (hl : ws.length ≤ 4096) (hW : RdW w A ws cap) (hS : SB w S M rv a) (hK : Kinds w M F allK) :
    Calls Tryz.prog 33 #[.pointer (some ⟨S, 0, none⟩), .agg #[.int .i64 1, .string (sB t)], .slice A ws.length cap] w (TakePost 1 ws (canB ⟨1, t⟩ ws) S M rv a w) := by
  have HW := hid hW
  have HS := hid hS
  have HK := hid hK
  have HL := hid hl
  have HP := hid hp
  obtain ⟨v, hv⟩ : ∃ v, v = canB ⟨1, t⟩ ws := ⟨_, rfl⟩
  rw [← hv]
  have HV := hid hv
  clear hv
  obtain ⟨kv, hkv⟩ : ∃ kv, kv = kdV F 1 := ⟨_, rfl⟩
  have hkd : kv = .agg #[.int .i64 1, .func (.func 48) #[] #[], .func (.func 49) #[] #[], .func (.func 50) #[] #[]] := by rw [hkv]; rfl
  obtain ⟨W1, hW1⟩ : ∃ W1, W1 = w.alloc (.cells #[.int .i64 1, .string (sB t)] 49) := ⟨_, rfl⟩
  have hb1 : Below w.heap.size w W1 := by rw [hW1]; exact b0 _ _
  have hsz : W1.heap.size = w.heap.size + 1 := by rw [hW1]; simp
  have hp0 : W1.cell? ⟨w.heap.size, 0, none⟩ = some (.int .i64 1) := by rw [hW1]; simp
  have hp1 : W1.cell? ⟨w.heap.size, 1, none⟩ = some (.string (sB t)) := by rw [hW1]; simp
  have hm : W1.cell? ⟨S, 5, none⟩ = some (.map (some M)) := (hS.on hb1).cell.2.2.2.2.2.1
  have hlS : S < W1.heap.size := by rw [hsz]; have := hS.lt; omega
  have hlp : w.heap.size < W1.heap.size := by omega
  have r1 := fun (u : World) (hu : Below W1.heap.size W1 u) => look_yes ((hK.on hb1).on hu) (k := 1) (by decide) false
  rw [← hkv, hkd] at r1
  simp only [Bool.false_eq_true, if_false] at r1
  have R0 := r1 W1.drew (Below.refl _ _).drew
  have R1 := fun (o : Obj) => r1 (W1.alloc o).drew ((b0 W1 o).drew)
  have hmZ := (World.cell?_alloc_lt W1 (.cells #[.int .i64 0, .nilFunc, .nilFunc, .nilFunc] 64) ⟨S, 5, none⟩ hlS).trans hm
  have hpZ := (World.cell?_alloc_lt W1 (.cells #[.int .i64 0, .nilFunc, .nilFunc, .nilFunc] 64) ⟨w.heap.size, 0, none⟩ hlp).trans hp0
  have HB1 := hid hb1
  clear hW hS hK hl hp hkv hkd hb1 r1
  go_enter Tryz.func33, Tryz.ntmps33
  go_wp2_with fail
  rw [← hW1]
  clear hW1
  go_region
  obtain ⟨W2, hW2⟩ : ∃ W2, W2 = (W1.alloc (.cells #[.int .i64 1, .func (.func 48) #[] #[], .func (.func 49) #[] #[], .func (.func 50) #[] #[]] 64)).drew := ⟨_, rfl⟩
  rw [← hW2]
  have hb2 : Below w.heap.size w W2 := by rw [hW2]; exact ((HB1.out.alloc HB1.out.size _).drew)
  have k0 : W2.cell? ⟨w.heap.size + 1, 0, none⟩ = some (.int .i64 1) := by rw [hW2, ← hsz]; simp
  have k2 : W2.cell? ⟨w.heap.size + 1, 2, none⟩ = some (.func (.func 49) #[] #[]) := by rw [hW2, ← hsz]; simp
  have p1 : W2.cell? ⟨w.heap.size, 1, none⟩ = some (.string (sB t)) := by rw [hW2]; exact (World.cell?_alloc_lt W1 _ ⟨w.heap.size, 1, none⟩ hlp).trans hp1
  have hz2 : w.heap.size + 1 < W2.heap.size := by rw [hW2]; simp; omega
  have HB2 := hid hb2
  clear hb2 hW2 hp0 hp1 hm hlS hlp hmZ hpZ R0 R1 hsz
  by_cases h0 : ws.length < 1
  · have hv : Hid (v = false) := HV.out.trans (can_lt h0)
    have d0 : decide ((ws.length : Int) < 1) = true := decide_eq_true (by omega)
    go_wp2
    go_ret
    exact ⟨by rw [hv.out]; try rfl, by rw [hv.out]; exact HS.out.on HB2.out, Kept.of HB2.out⟩
  · have d0 : decide ((ws.length : Int) < 1) = false := decide_eq_false (by omega)
    by_cases h4 : 1 < ws.length
    · have hv : Hid (v = false) := HV.out.trans (can_gt1 (by simp [sevB]) h4)
      have d4 : decide ((1 : Int) < (ws.length : Int)) = true := decide_eq_true (by omega)
      have d4' : decide (1 < ws.length) = true := decide_eq_true h4
      go_wp2
      go_ret
      exact ⟨by rw [hv.out]; try rfl, by rw [hv.out]; exact HS.out.on HB2.out, Kept.of HB2.out⟩
    · have d4 : decide ((1 : Int) < (ws.length : Int)) = false := decide_eq_false (by omega)
      have d4' : decide (1 < ws.length) = false := decide_eq_false h4
      have CA := hid (allW_any ws A cap W2 HL.out (HW.out.on HB2.out))
      cases hr : ws.all fitW
      · have hv : Hid (v = false) := HV.out.trans (can_nofit hr)
        rw [hr] at CA
        clear hr
        go_wp2_with fail
        refine CA.out.mono ?_
        rintro e w3 ⟨rfl, hb3⟩
        have HB3 := hid (bt HB2.out hb3)
        clear hb3
        go_wp2
        go_ret
        exact ⟨by rw [hv.out]; try rfl, by rw [hv.out]; exact HS.out.on HB3.out, Kept.of HB3.out⟩
      · rw [hr] at CA
        have HR := hid hr
        clear hr
        go_wp2_with fail
        refine CA.out.mono ?_
        rintro e w3 ⟨rfl, hb3⟩
        have k2' := (hb3.cell (p := (⟨w.heap.size + 1, 2, none⟩ : Addr)) hz2).trans k2
        have p1' := (hb3.cell (p := (⟨w.heap.size, 1, none⟩ : Addr)) (show w.heap.size < W2.heap.size by omega)).trans p1
        have HB3 := hid (bt HB2.out hb3)
        clear hb3 k0 k2 p1
        obtain ⟨x, rfl⟩ := one_of (show ws.length = 1 by omega)
        have hx : fitW x = true := by have := HR.out; simpa using this
        have hv : Hid (v = decide (upL x = upL t)) := HV.out.trans (can_k1 t hx)
        have hlen : [x].length = 1 := rfl
        have CT := hid (takeWord_any t x ((wfp HP.out).2.2.1 rfl) hx A cap (.pointer (some ⟨S, 0, none⟩)) w3 (HW.out.on HB3.out))
        rw [← hv.out] at CT
        clear hx hlen
        go_wp2_with fail
        refine CT.out.mono ?_
        rintro e w4 ⟨rfl, rfl⟩
        go_wp2
        go_ret
        refine ⟨rfl, ?_, Kept.of HB3.out⟩
        have hs3 := HS.out.on HB3.out
        cases v <;> exact hs3

set_option maxRecDepth 100000 in
set_option maxHeartbeats 16000000 in
theorem takes2_any (t : W) (hp : partB ⟨2, t⟩ = true) (ws : List W) (A : Option Addr) (cap S M : Nat) (F : Int → Nat) (rv : Value) (a : Ad) (w : World) (hl : ws.length ≤ 4096) (hW : RdW w A ws cap) (hS : SB w S M rv a) (hK : Kinds w M F allK) :
    Calls Tryz.prog 33 #[.pointer (some ⟨S, 0, none⟩), .agg #[.int .i64 2, .string (sB t)], .slice A ws.length cap] w (TakePost 2 ws (canB ⟨2, t⟩ ws) S M rv a w) := by
  have HW := hid hW
  have HS := hid hS
  have HK := hid hK
  have HL := hid hl
  have HP := hid hp
  obtain ⟨v, hv⟩ : ∃ v, v = canB ⟨2, t⟩ ws := ⟨_, rfl⟩
  rw [← hv]
  have HV := hid hv
  clear hv
  obtain ⟨kv, hkv⟩ : ∃ kv, kv = kdV F 2 := ⟨_, rfl⟩
  have hkd : kv = .agg #[.int .i64 1, .func (.func 51) #[] #[], .func (.func 52) #[] #[], .func (.func 53) #[] #[]] := by rw [hkv]; rfl
  obtain ⟨W1, hW1⟩ : ∃ W1, W1 = w.alloc (.cells #[.int .i64 2, .string (sB t)] 49) := ⟨_, rfl⟩
  have hb1 : Below w.heap.size w W1 := by rw [hW1]; exact b0 _ _
  have hsz : W1.heap.size = w.heap.size + 1 := by rw [hW1]; simp
  have hp0 : W1.cell? ⟨w.heap.size, 0, none⟩ = some (.int .i64 2) := by rw [hW1]; simp
  have hp1 : W1.cell? ⟨w.heap.size, 1, none⟩ = some (.string (sB t)) := by rw [hW1]; simp
  have hm : W1.cell? ⟨S, 5, none⟩ = some (.map (some M)) := (hS.on hb1).cell.2.2.2.2.2.1
  have hlS : S < W1.heap.size := by rw [hsz]; have := hS.lt; omega
  have hlp : w.heap.size < W1.heap.size := by omega
  have r1 := fun (u : World) (hu : Below W1.heap.size W1 u) => look_yes ((hK.on hb1).on hu) (k := 2) (by decide) false
  rw [← hkv, hkd] at r1
  simp only [Bool.false_eq_true, if_false] at r1
  have R0 := r1 W1.drew (Below.refl _ _).drew
  have R1 := fun (o : Obj) => r1 (W1.alloc o).drew ((b0 W1 o).drew)
  have hmZ := (World.cell?_alloc_lt W1 (.cells #[.int .i64 0, .nilFunc, .nilFunc, .nilFunc] 64) ⟨S, 5, none⟩ hlS).trans hm
  have hpZ := (World.cell?_alloc_lt W1 (.cells #[.int .i64 0, .nilFunc, .nilFunc, .nilFunc] 64) ⟨w.heap.size, 0, none⟩ hlp).trans hp0
  have HB1 := hid hb1
  clear hW hS hK hl hp hkv hkd hb1 r1
  go_enter Tryz.func33, Tryz.ntmps33
  go_wp2_with fail
  rw [← hW1]
  clear hW1
  go_region
  obtain ⟨W2, hW2⟩ : ∃ W2, W2 = (W1.alloc (.cells #[.int .i64 1, .func (.func 51) #[] #[], .func (.func 52) #[] #[], .func (.func 53) #[] #[]] 64)).drew := ⟨_, rfl⟩
  rw [← hW2]
  have hb2 : Below w.heap.size w W2 := by rw [hW2]; exact ((HB1.out.alloc HB1.out.size _).drew)
  have k0 : W2.cell? ⟨w.heap.size + 1, 0, none⟩ = some (.int .i64 1) := by rw [hW2, ← hsz]; simp
  have k2 : W2.cell? ⟨w.heap.size + 1, 2, none⟩ = some (.func (.func 52) #[] #[]) := by rw [hW2, ← hsz]; simp
  have p1 : W2.cell? ⟨w.heap.size, 1, none⟩ = some (.string (sB t)) := by rw [hW2]; exact (World.cell?_alloc_lt W1 _ ⟨w.heap.size, 1, none⟩ hlp).trans hp1
  have hz2 : w.heap.size + 1 < W2.heap.size := by rw [hW2]; simp; omega
  have HB2 := hid hb2
  clear hb2 hW2 hp0 hp1 hm hlS hlp hmZ hpZ R0 R1 hsz
  by_cases h0 : ws.length < 1
  · have hv : Hid (v = false) := HV.out.trans (can_lt h0)
    have d0 : decide ((ws.length : Int) < 1) = true := decide_eq_true (by omega)
    go_wp2
    go_ret
    exact ⟨by rw [hv.out]; try rfl, by rw [hv.out]; exact HS.out.on HB2.out, Kept.of HB2.out⟩
  · have d0 : decide ((ws.length : Int) < 1) = false := decide_eq_false (by omega)
    by_cases h4 : 1 < ws.length
    · have hv : Hid (v = false) := HV.out.trans (can_gt1 (by simp [sevB]) h4)
      have d4 : decide ((1 : Int) < (ws.length : Int)) = true := decide_eq_true (by omega)
      have d4' : decide (1 < ws.length) = true := decide_eq_true h4
      go_wp2
      go_ret
      exact ⟨by rw [hv.out]; try rfl, by rw [hv.out]; exact HS.out.on HB2.out, Kept.of HB2.out⟩
    · have d4 : decide ((1 : Int) < (ws.length : Int)) = false := decide_eq_false (by omega)
      have d4' : decide (1 < ws.length) = false := decide_eq_false h4
      have CA := hid (allW_any ws A cap W2 HL.out (HW.out.on HB2.out))
      cases hr : ws.all fitW
      · have hv : Hid (v = false) := HV.out.trans (can_nofit hr)
        rw [hr] at CA
        clear hr
        go_wp2_with fail
        refine CA.out.mono ?_
        rintro e w3 ⟨rfl, hb3⟩
        have HB3 := hid (bt HB2.out hb3)
        clear hb3
        go_wp2
        go_ret
        exact ⟨by rw [hv.out]; try rfl, by rw [hv.out]; exact HS.out.on HB3.out, Kept.of HB3.out⟩
      · rw [hr] at CA
        have HR := hid hr
        clear hr
        go_wp2_with fail
        refine CA.out.mono ?_
        rintro e w3 ⟨rfl, hb3⟩
        have k2' := (hb3.cell (p := (⟨w.heap.size + 1, 2, none⟩ : Addr)) hz2).trans k2
        have p1' := (hb3.cell (p := (⟨w.heap.size, 1, none⟩ : Addr)) (show w.heap.size < W2.heap.size by omega)).trans p1
        have HB3 := hid (bt HB2.out hb3)
        clear hb3 k0 k2 p1
        obtain ⟨x, rfl⟩ := one_of (show ws.length = 1 by omega)
        have hx : fitW x = true := by have := HR.out; simpa using this
        have hv : Hid (v = isNum x) := HV.out.trans (can_k2 t hx)
        have hlen : [x].length = 1 := rfl
        have CT := hid (takeNumber_any t x hx A cap S M rv a w3 (HW.out.on HB3.out) (HS.out.on HB3.out))
        rw [← hv.out] at CT
        clear hx hlen
        go_wp2_with fail
        refine CT.out.mono ?_
        rintro e w4 ⟨rfl, hs4, hk4⟩
        have HS4 := hid hs4
        have HK4 := hid hk4
        clear hs4 hk4
        go_wp2
        go_ret
        exact ⟨rfl, HS4.out, (Kept.of HB3.out).trans (HK4.out.mono HB3.out.size)⟩

set_option maxRecDepth 100000 in
set_option maxHeartbeats 16000000 in
theorem takes3_any (t : W) (hp : partB ⟨3, t⟩ = true) (ws : List W) (A : Option Addr) (cap S M : Nat) (F : Int → Nat) (rv : Value) (a : Ad) (w : World) (hl : ws.length ≤ 4096) (hW : RdW w A ws cap) (hS : SB w S M rv a) (hK : Kinds w M F allK) :
    Calls Tryz.prog 33 #[.pointer (some ⟨S, 0, none⟩), .agg #[.int .i64 3, .string (sB t)], .slice A ws.length cap] w (TakePost 3 ws (canB ⟨3, t⟩ ws) S M rv a w) := by
  have HW := hid hW
  have HS := hid hS
  have HK := hid hK
  have HL := hid hl
  have HP := hid hp
  obtain ⟨v, hv⟩ : ∃ v, v = canB ⟨3, t⟩ ws := ⟨_, rfl⟩
  rw [← hv]
  have HV := hid hv
  clear hv
  obtain ⟨kv, hkv⟩ : ∃ kv, kv = kdV F 3 := ⟨_, rfl⟩
  have hkd : kv = .agg #[.int .i64 1, .func (.func 55) #[] #[], .func (.func 56) #[] #[], .func (.func 57) #[] #[]] := by rw [hkv]; rfl
  obtain ⟨W1, hW1⟩ : ∃ W1, W1 = w.alloc (.cells #[.int .i64 3, .string (sB t)] 49) := ⟨_, rfl⟩
  have hb1 : Below w.heap.size w W1 := by rw [hW1]; exact b0 _ _
  have hsz : W1.heap.size = w.heap.size + 1 := by rw [hW1]; simp
  have hp0 : W1.cell? ⟨w.heap.size, 0, none⟩ = some (.int .i64 3) := by rw [hW1]; simp
  have hp1 : W1.cell? ⟨w.heap.size, 1, none⟩ = some (.string (sB t)) := by rw [hW1]; simp
  have hm : W1.cell? ⟨S, 5, none⟩ = some (.map (some M)) := (hS.on hb1).cell.2.2.2.2.2.1
  have hlS : S < W1.heap.size := by rw [hsz]; have := hS.lt; omega
  have hlp : w.heap.size < W1.heap.size := by omega
  have r1 := fun (u : World) (hu : Below W1.heap.size W1 u) => look_yes ((hK.on hb1).on hu) (k := 3) (by decide) false
  rw [← hkv, hkd] at r1
  simp only [Bool.false_eq_true, if_false] at r1
  have R0 := r1 W1.drew (Below.refl _ _).drew
  have R1 := fun (o : Obj) => r1 (W1.alloc o).drew ((b0 W1 o).drew)
  have hmZ := (World.cell?_alloc_lt W1 (.cells #[.int .i64 0, .nilFunc, .nilFunc, .nilFunc] 64) ⟨S, 5, none⟩ hlS).trans hm
  have hpZ := (World.cell?_alloc_lt W1 (.cells #[.int .i64 0, .nilFunc, .nilFunc, .nilFunc] 64) ⟨w.heap.size, 0, none⟩ hlp).trans hp0
  have HB1 := hid hb1
  clear hW hS hK hl hp hkv hkd hb1 r1
  go_enter Tryz.func33, Tryz.ntmps33
  go_wp2_with fail
  rw [← hW1]
  clear hW1
  go_region
  obtain ⟨W2, hW2⟩ : ∃ W2, W2 = (W1.alloc (.cells #[.int .i64 1, .func (.func 55) #[] #[], .func (.func 56) #[] #[], .func (.func 57) #[] #[]] 64)).drew := ⟨_, rfl⟩
  rw [← hW2]
  have hb2 : Below w.heap.size w W2 := by rw [hW2]; exact ((HB1.out.alloc HB1.out.size _).drew)
  have k0 : W2.cell? ⟨w.heap.size + 1, 0, none⟩ = some (.int .i64 1) := by rw [hW2, ← hsz]; simp
  have k2 : W2.cell? ⟨w.heap.size + 1, 2, none⟩ = some (.func (.func 56) #[] #[]) := by rw [hW2, ← hsz]; simp
  have p1 : W2.cell? ⟨w.heap.size, 1, none⟩ = some (.string (sB t)) := by rw [hW2]; exact (World.cell?_alloc_lt W1 _ ⟨w.heap.size, 1, none⟩ hlp).trans hp1
  have hz2 : w.heap.size + 1 < W2.heap.size := by rw [hW2]; simp; omega
  have HB2 := hid hb2
  clear hb2 hW2 hp0 hp1 hm hlS hlp hmZ hpZ R0 R1 hsz
  by_cases h0 : ws.length < 1
  · have hv : Hid (v = false) := HV.out.trans (can_lt h0)
    have d0 : decide ((ws.length : Int) < 1) = true := decide_eq_true (by omega)
    go_wp2
    go_ret
    exact ⟨by rw [hv.out]; try rfl, by rw [hv.out]; exact HS.out.on HB2.out, Kept.of HB2.out⟩
  · have d0 : decide ((ws.length : Int) < 1) = false := decide_eq_false (by omega)
    by_cases h4 : 1 < ws.length
    · have hv : Hid (v = false) := HV.out.trans (can_gt1 (by simp [sevB]) h4)
      have d4 : decide ((1 : Int) < (ws.length : Int)) = true := decide_eq_true (by omega)
      have d4' : decide (1 < ws.length) = true := decide_eq_true h4
      go_wp2
      go_ret
      exact ⟨by rw [hv.out]; try rfl, by rw [hv.out]; exact HS.out.on HB2.out, Kept.of HB2.out⟩
    · have d4 : decide ((1 : Int) < (ws.length : Int)) = false := decide_eq_false (by omega)
      have d4' : decide (1 < ws.length) = false := decide_eq_false h4
      have CA := hid (allW_any ws A cap W2 HL.out (HW.out.on HB2.out))
      cases hr : ws.all fitW
      · have hv : Hid (v = false) := HV.out.trans (can_nofit hr)
        rw [hr] at CA
        clear hr
        go_wp2_with fail
        refine CA.out.mono ?_
        rintro e w3 ⟨rfl, hb3⟩
        have HB3 := hid (bt HB2.out hb3)
        clear hb3
        go_wp2
        go_ret
        exact ⟨by rw [hv.out]; try rfl, by rw [hv.out]; exact HS.out.on HB3.out, Kept.of HB3.out⟩
      · rw [hr] at CA
        have HR := hid hr
        clear hr
        go_wp2_with fail
        refine CA.out.mono ?_
        rintro e w3 ⟨rfl, hb3⟩
        have k2' := (hb3.cell (p := (⟨w.heap.size + 1, 2, none⟩ : Addr)) hz2).trans k2
        have p1' := (hb3.cell (p := (⟨w.heap.size, 1, none⟩ : Addr)) (show w.heap.size < W2.heap.size by omega)).trans p1
        have HB3 := hid (bt HB2.out hb3)
        clear hb3 k0 k2 p1
        obtain ⟨x, rfl⟩ := one_of (show ws.length = 1 by omega)
        have hx : fitW x = true := by have := HR.out; simpa using this
        have hv : Hid (v = codeW x t) := HV.out.trans (can_k3 t hx)
        have hlen : [x].length = 1 := rfl
        have CT := hid (takeCode_any t x ((wfp HP.out).2.2.2.1 rfl) hx A cap S M rv a w3 (HW.out.on HB3.out) (HS.out.on HB3.out))
        rw [← hv.out] at CT
        clear hx hlen
        go_wp2_with fail
        refine CT.out.mono ?_
        rintro e w4 ⟨rfl, hs4, hk4⟩
        have HS4 := hid hs4
        have HK4 := hid hk4
        clear hs4 hk4
        go_wp2
        go_ret
        exact ⟨rfl, HS4.out, (Kept.of HB3.out).trans (HK4.out.mono HB3.out.size)⟩

set_option maxRecDepth 100000 in
set_option maxHeartbeats 16000000 in
theorem takes4_any (t : W) (hp : partB ⟨4, t⟩ = true) (ws : List W) (A : Option Addr) (cap S M : Nat) (F : Int → Nat) (rv : Value) (a : Ad) (w : World) (hl : ws.length ≤ 4096) (hW : RdW w A ws cap) (hS : SB w S M rv a) (hK : Kinds w M F allK) :
    Calls Tryz.prog 33 #[.pointer (some ⟨S, 0, none⟩), .agg #[.int .i64 4, .string (sB t)], .slice A ws.length cap] w (TakePost 4 ws (canB ⟨4, t⟩ ws) S M rv a w) := by
  have HW := hid hW
  have HS := hid hS
  have HK := hid hK
  have HL := hid hl
  have HP := hid hp
  obtain ⟨v, hv⟩ : ∃ v, v = canB ⟨4, t⟩ ws := ⟨_, rfl⟩
  rw [← hv]
  have HV := hid hv
  clear hv
  obtain ⟨X, hXF⟩ : ∃ X, X = F 4 := ⟨_, rfl⟩
  have hX : w.heap[X]? = some (.cells #[fnV (fldF 4)] 80 (0, 0)) := by rw [hXF]; exact hK.box 4 (by decide) (by decide)
  have HX := hid hX
  obtain ⟨kv, hkv⟩ : ∃ kv, kv = kdV F 4 := ⟨_, rfl⟩
  have hkd : kv = .agg #[.int .i64 4, .func (.func 51) #[] #[], .func (.func 81) #[] #[.pointer (some ⟨X, 0, none⟩)], .func (.func 82) #[] #[.pointer (some ⟨X, 0, none⟩)]] := by rw [hkv]; subst hXF; rfl
  obtain ⟨W1, hW1⟩ : ∃ W1, W1 = w.alloc (.cells #[.int .i64 4, .string (sB t)] 49) := ⟨_, rfl⟩
  have hb1 : Below w.heap.size w W1 := by rw [hW1]; exact b0 _ _
  have hsz : W1.heap.size = w.heap.size + 1 := by rw [hW1]; simp
  have hp0 : W1.cell? ⟨w.heap.size, 0, none⟩ = some (.int .i64 4) := by rw [hW1]; simp
  have hp1 : W1.cell? ⟨w.heap.size, 1, none⟩ = some (.string (sB t)) := by rw [hW1]; simp
  have hm : W1.cell? ⟨S, 5, none⟩ = some (.map (some M)) := (hS.on hb1).cell.2.2.2.2.2.1
  have hlS : S < W1.heap.size := by rw [hsz]; have := hS.lt; omega
  have hlp : w.heap.size < W1.heap.size := by omega
  have r1 := fun (u : World) (hu : Below W1.heap.size W1 u) => look_yes ((hK.on hb1).on hu) (k := 4) (by decide) false
  rw [← hkv, hkd] at r1
  simp only [Bool.false_eq_true, if_false] at r1
  have R0 := r1 W1.drew (Below.refl _ _).drew
  have R1 := fun (o : Obj) => r1 (W1.alloc o).drew ((b0 W1 o).drew)
  have hmZ := (World.cell?_alloc_lt W1 (.cells #[.int .i64 0, .nilFunc, .nilFunc, .nilFunc] 64) ⟨S, 5, none⟩ hlS).trans hm
  have hpZ := (World.cell?_alloc_lt W1 (.cells #[.int .i64 0, .nilFunc, .nilFunc, .nilFunc] 64) ⟨w.heap.size, 0, none⟩ hlp).trans hp0
  have HB1 := hid hb1
  clear hW hS hK hl hp hkv hkd hb1 r1 hXF hX
  go_enter Tryz.func33, Tryz.ntmps33
  go_wp2_with fail
  rw [← hW1]
  clear hW1
  go_region
  obtain ⟨W2, hW2⟩ : ∃ W2, W2 = (W1.alloc (.cells #[.int .i64 4, .func (.func 51) #[] #[], .func (.func 81) #[] #[.pointer (some ⟨X, 0, none⟩)], .func (.func 82) #[] #[.pointer (some ⟨X, 0, none⟩)]] 64)).drew := ⟨_, rfl⟩
  rw [← hW2]
  have hb2 : Below w.heap.size w W2 := by rw [hW2]; exact ((HB1.out.alloc HB1.out.size _).drew)
  have k0 : W2.cell? ⟨w.heap.size + 1, 0, none⟩ = some (.int .i64 4) := by rw [hW2, ← hsz]; simp
  have k2 : W2.cell? ⟨w.heap.size + 1, 2, none⟩ = some (.func (.func 81) #[] #[.pointer (some ⟨X, 0, none⟩)]) := by rw [hW2, ← hsz]; simp
  have p1 : W2.cell? ⟨w.heap.size, 1, none⟩ = some (.string (sB t)) := by rw [hW2]; exact (World.cell?_alloc_lt W1 _ ⟨w.heap.size, 1, none⟩ hlp).trans hp1
  have hz2 : w.heap.size + 1 < W2.heap.size := by rw [hW2]; simp; omega
  have HB2 := hid hb2
  clear hb2 hW2 hp0 hp1 hm hlS hlp hmZ hpZ R0 R1 hsz
  by_cases h0 : ws.length < 1
  · have hv : Hid (v = false) := HV.out.trans (can_lt h0)
    have d0 : decide ((ws.length : Int) < 1) = true := decide_eq_true (by omega)
    go_wp2
    go_ret
    exact ⟨by rw [hv.out]; try rfl, by rw [hv.out]; exact HS.out.on HB2.out, Kept.of HB2.out⟩
  · have d0 : decide ((ws.length : Int) < 1) = false := decide_eq_false (by omega)
    by_cases h4 : 4 < ws.length
    · have hv : Hid (v = false) := HV.out.trans (can_gt4 h4)
      have d4 : decide ((4 : Int) < (ws.length : Int)) = true := decide_eq_true (by omega)
      have d4' : decide (4 < ws.length) = true := decide_eq_true h4
      go_wp2
      go_ret
      exact ⟨by rw [hv.out]; try rfl, by rw [hv.out]; exact HS.out.on HB2.out, Kept.of HB2.out⟩
    · have d4 : decide ((4 : Int) < (ws.length : Int)) = false := decide_eq_false (by omega)
      have d4' : decide (4 < ws.length) = false := decide_eq_false h4
      have CA := hid (allW_any ws A cap W2 HL.out (HW.out.on HB2.out))
      cases hr : ws.all fitW
      · have hv : Hid (v = false) := HV.out.trans (can_nofit hr)
        rw [hr] at CA
        clear hr
        go_wp2_with fail
        refine CA.out.mono ?_
        rintro e w3 ⟨rfl, hb3⟩
        have HB3 := hid (bt HB2.out hb3)
        clear hb3
        go_wp2
        go_ret
        exact ⟨by rw [hv.out]; try rfl, by rw [hv.out]; exact HS.out.on HB3.out, Kept.of HB3.out⟩
      · rw [hr] at CA
        have HR := hid hr
        clear hr
        go_wp2_with fail
        refine CA.out.mono ?_
        rintro e w3 ⟨rfl, hb3⟩
        have k2' := (hb3.cell (p := (⟨w.heap.size + 1, 2, none⟩ : Addr)) hz2).trans k2
        have p1' := (hb3.cell (p := (⟨w.heap.size, 1, none⟩ : Addr)) (show w.heap.size < W2.heap.size by omega)).trans p1
        have HB3 := hid (bt HB2.out hb3)
        clear hb3 k0 k2 p1
        have hfit := fun w hw => List.all_eq_true.1 HR.out w hw
        have hv : Hid (v = true) := HV.out.trans (can_sev t (by decide) (by omega) (by omega) hfit)
        have CT := hid (several4_any ws hfit (by omega) A cap S M X rv (.string (sB t)) a w3 (HW.out.on HB3.out) (HS.out.on HB3.out) ((HB3.out.block _ (heap_lt HX.out)).trans HX.out))
        rw [← hv.out] at CT
        clear hfit
        go_wp2_with fail
        refine CT.out.mono ?_
        rintro e w4 ⟨rfl, hs4, hk4⟩
        have HS4 := hid hs4
        have HK4 := hid hk4
        clear hs4 hk4
        go_wp2
        go_ret
        exact ⟨rfl, HS4.out, (Kept.of HB3.out).trans (HK4.out.mono HB3.out.size)⟩

set_option maxRecDepth 100000 in
set_option maxHeartbeats 16000000 in
theorem takes5_any (t : W) (hp : partB ⟨5, t⟩ = true) (ws : List W) (A : Option Addr) (cap S M : Nat) (F : Int → Nat) (rv : Value) (a : Ad) (w : World) (hl : ws.length ≤ 4096) (hW : RdW w A ws cap) (hS : SB w S M rv a) (hK : Kinds w M F allK) :
    Calls Tryz.prog 33 #[.pointer (some ⟨S, 0, none⟩), .agg #[.int .i64 5, .string (sB t)], .slice A ws.length cap] w (TakePost 5 ws (canB ⟨5, t⟩ ws) S M rv a w) := by
  have HW := hid hW
  have HS := hid hS
  have HK := hid hK
  have HL := hid hl
  have HP := hid hp
  obtain ⟨v, hv⟩ : ∃ v, v = canB ⟨5, t⟩ ws := ⟨_, rfl⟩
  rw [← hv]
  have HV := hid hv
  clear hv
  obtain ⟨X, hXF⟩ : ∃ X, X = F 5 := ⟨_, rfl⟩
  have hX : w.heap[X]? = some (.cells #[fnV (fldF 5)] 80 (0, 0)) := by rw [hXF]; exact hK.box 5 (by decide) (by decide)
  have HX := hid hX
  obtain ⟨kv, hkv⟩ : ∃ kv, kv = kdV F 5 := ⟨_, rfl⟩
  have hkd : kv = .agg #[.int .i64 4, .func (.func 51) #[] #[], .func (.func 81) #[] #[.pointer (some ⟨X, 0, none⟩)], .func (.func 82) #[] #[.pointer (some ⟨X, 0, none⟩)]] := by rw [hkv]; subst hXF; rfl
  obtain ⟨W1, hW1⟩ : ∃ W1, W1 = w.alloc (.cells #[.int .i64 5, .string (sB t)] 49) := ⟨_, rfl⟩
  have hb1 : Below w.heap.size w W1 := by rw [hW1]; exact b0 _ _
  have hsz : W1.heap.size = w.heap.size + 1 := by rw [hW1]; simp
  have hp0 : W1.cell? ⟨w.heap.size, 0, none⟩ = some (.int .i64 5) := by rw [hW1]; simp
  have hp1 : W1.cell? ⟨w.heap.size, 1, none⟩ = some (.string (sB t)) := by rw [hW1]; simp
  have hm : W1.cell? ⟨S, 5, none⟩ = some (.map (some M)) := (hS.on hb1).cell.2.2.2.2.2.1
  have hlS : S < W1.heap.size := by rw [hsz]; have := hS.lt; omega
  have hlp : w.heap.size < W1.heap.size := by omega
  have r1 := fun (u : World) (hu : Below W1.heap.size W1 u) => look_yes ((hK.on hb1).on hu) (k := 5) (by decide) false
  rw [← hkv, hkd] at r1
  simp only [Bool.false_eq_true, if_false] at r1
  have R0 := r1 W1.drew (Below.refl _ _).drew
  have R1 := fun (o : Obj) => r1 (W1.alloc o).drew ((b0 W1 o).drew)
  have hmZ := (World.cell?_alloc_lt W1 (.cells #[.int .i64 0, .nilFunc, .nilFunc, .nilFunc] 64) ⟨S, 5, none⟩ hlS).trans hm
  have hpZ := (World.cell?_alloc_lt W1 (.cells #[.int .i64 0, .nilFunc, .nilFunc, .nilFunc] 64) ⟨w.heap.size, 0, none⟩ hlp).trans hp0
  have HB1 := hid hb1
  clear hW hS hK hl hp hkv hkd hb1 r1 hXF hX
  go_enter Tryz.func33, Tryz.ntmps33
  go_wp2_with fail
  rw [← hW1]
  clear hW1
  go_region
  obtain ⟨W2, hW2⟩ : ∃ W2, W2 = (W1.alloc (.cells #[.int .i64 4, .func (.func 51) #[] #[], .func (.func 81) #[] #[.pointer (some ⟨X, 0, none⟩)], .func (.func 82) #[] #[.pointer (some ⟨X, 0, none⟩)]] 64)).drew := ⟨_, rfl⟩
  rw [← hW2]
  have hb2 : Below w.heap.size w W2 := by rw [hW2]; exact ((HB1.out.alloc HB1.out.size _).drew)
  have k0 : W2.cell? ⟨w.heap.size + 1, 0, none⟩ = some (.int .i64 4) := by rw [hW2, ← hsz]; simp
  have k2 : W2.cell? ⟨w.heap.size + 1, 2, none⟩ = some (.func (.func 81) #[] #[.pointer (some ⟨X, 0, none⟩)]) := by rw [hW2, ← hsz]; simp
  have p1 : W2.cell? ⟨w.heap.size, 1, none⟩ = some (.string (sB t)) := by rw [hW2]; exact (World.cell?_alloc_lt W1 _ ⟨w.heap.size, 1, none⟩ hlp).trans hp1
  have hz2 : w.heap.size + 1 < W2.heap.size := by rw [hW2]; simp; omega
  have HB2 := hid hb2
  clear hb2 hW2 hp0 hp1 hm hlS hlp hmZ hpZ R0 R1 hsz
  by_cases h0 : ws.length < 1
  · have hv : Hid (v = false) := HV.out.trans (can_lt h0)
    have d0 : decide ((ws.length : Int) < 1) = true := decide_eq_true (by omega)
    go_wp2
    go_ret
    exact ⟨by rw [hv.out]; try rfl, by rw [hv.out]; exact HS.out.on HB2.out, Kept.of HB2.out⟩
  · have d0 : decide ((ws.length : Int) < 1) = false := decide_eq_false (by omega)
    by_cases h4 : 4 < ws.length
    · have hv : Hid (v = false) := HV.out.trans (can_gt4 h4)
      have d4 : decide ((4 : Int) < (ws.length : Int)) = true := decide_eq_true (by omega)
      have d4' : decide (4 < ws.length) = true := decide_eq_true h4
      go_wp2
      go_ret
      exact ⟨by rw [hv.out]; try rfl, by rw [hv.out]; exact HS.out.on HB2.out, Kept.of HB2.out⟩
    · have d4 : decide ((4 : Int) < (ws.length : Int)) = false := decide_eq_false (by omega)
      have d4' : decide (4 < ws.length) = false := decide_eq_false h4
      have CA := hid (allW_any ws A cap W2 HL.out (HW.out.on HB2.out))
      cases hr : ws.all fitW
      · have hv : Hid (v = false) := HV.out.trans (can_nofit hr)
        rw [hr] at CA
        clear hr
        go_wp2_with fail
        refine CA.out.mono ?_
        rintro e w3 ⟨rfl, hb3⟩
        have HB3 := hid (bt HB2.out hb3)
        clear hb3
        go_wp2
        go_ret
        exact ⟨by rw [hv.out]; try rfl, by rw [hv.out]; exact HS.out.on HB3.out, Kept.of HB3.out⟩
      · rw [hr] at CA
        have HR := hid hr
        clear hr
        go_wp2_with fail
        refine CA.out.mono ?_
        rintro e w3 ⟨rfl, hb3⟩
        have k2' := (hb3.cell (p := (⟨w.heap.size + 1, 2, none⟩ : Addr)) hz2).trans k2
        have p1' := (hb3.cell (p := (⟨w.heap.size, 1, none⟩ : Addr)) (show w.heap.size < W2.heap.size by omega)).trans p1
        have HB3 := hid (bt HB2.out hb3)
        clear hb3 k0 k2 p1
        have hfit := fun w hw => List.all_eq_true.1 HR.out w hw
        have hv : Hid (v = true) := HV.out.trans (can_sev t (by decide) (by omega) (by omega) hfit)
        have CT := hid (several5_any ws hfit (by omega) A cap S M X rv (.string (sB t)) a w3 (HW.out.on HB3.out) (HS.out.on HB3.out) ((HB3.out.block _ (heap_lt HX.out)).trans HX.out))
        rw [← hv.out] at CT
        clear hfit
        go_wp2_with fail
        refine CT.out.mono ?_
        rintro e w4 ⟨rfl, hs4, hk4⟩
        have HS4 := hid hs4
        have HK4 := hid hk4
        clear hs4 hk4
        go_wp2
        go_ret
        exact ⟨rfl, HS4.out, (Kept.of HB3.out).trans (HK4.out.mono HB3.out.size)⟩

set_option maxRecDepth 100000 in
set_option maxHeartbeats 16000000 in
theorem takes6_any (t : W) (hp : partB ⟨6, t⟩ = true) (ws : List W) (A : Option Addr) (cap S M : Nat) (F : Int → Nat) (rv : Value) (a : Ad) (w : World) (hl : ws.length ≤ 4096) (hW : RdW w A ws cap) (hS : SB w S M rv a) (hK : Kinds w M F allK) :
    Calls Tryz.prog 33 #[.pointer (some ⟨S, 0, none⟩), .agg #[.int .i64 6, .string (sB t)], .slice A ws.length cap] w (TakePost 6 ws (canB ⟨6, t⟩ ws) S M rv a w) := by
  have HW := hid hW
  have HS := hid hS
  have HK := hid hK
  have HL := hid hl
  have HP := hid hp
  obtain ⟨v, hv⟩ : ∃ v, v = canB ⟨6, t⟩ ws := ⟨_, rfl⟩
  rw [← hv]
  have HV := hid hv
  clear hv
  obtain ⟨X, hXF⟩ : ∃ X, X = F 6 := ⟨_, rfl⟩
  have hX : w.heap[X]? = some (.cells #[fnV (fldF 6)] 80 (0, 0)) := by rw [hXF]; exact hK.box 6 (by decide) (by decide)
  have HX := hid hX
  obtain ⟨kv, hkv⟩ : ∃ kv, kv = kdV F 6 := ⟨_, rfl⟩
  have hkd : kv = .agg #[.int .i64 4, .func (.func 51) #[] #[], .func (.func 81) #[] #[.pointer (some ⟨X, 0, none⟩)], .func (.func 82) #[] #[.pointer (some ⟨X, 0, none⟩)]] := by rw [hkv]; subst hXF; rfl
  obtain ⟨W1, hW1⟩ : ∃ W1, W1 = w.alloc (.cells #[.int .i64 6, .string (sB t)] 49) := ⟨_, rfl⟩
  have hb1 : Below w.heap.size w W1 := by rw [hW1]; exact b0 _ _
  have hsz : W1.heap.size = w.heap.size + 1 := by rw [hW1]; simp
  have hp0 : W1.cell? ⟨w.heap.size, 0, none⟩ = some (.int .i64 6) := by rw [hW1]; simp
  have hp1 : W1.cell? ⟨w.heap.size, 1, none⟩ = some (.string (sB t)) := by rw [hW1]; simp
  have hm : W1.cell? ⟨S, 5, none⟩ = some (.map (some M)) := (hS.on hb1).cell.2.2.2.2.2.1
  have hlS : S < W1.heap.size := by rw [hsz]; have := hS.lt; omega
  have hlp : w.heap.size < W1.heap.size := by omega
  have r1 := fun (u : World) (hu : Below W1.heap.size W1 u) => look_yes ((hK.on hb1).on hu) (k := 6) (by decide) false
  rw [← hkv, hkd] at r1
  simp only [Bool.false_eq_true, if_false] at r1
  have R0 := r1 W1.drew (Below.refl _ _).drew
  have R1 := fun (o : Obj) => r1 (W1.alloc o).drew ((b0 W1 o).drew)
  have hmZ := (World.cell?_alloc_lt W1 (.cells #[.int .i64 0, .nilFunc, .nilFunc, .nilFunc] 64) ⟨S, 5, none⟩ hlS).trans hm
  have hpZ := (World.cell?_alloc_lt W1 (.cells #[.int .i64 0, .nilFunc, .nilFunc, .nilFunc] 64) ⟨w.heap.size, 0, none⟩ hlp).trans hp0
  have HB1 := hid hb1
  clear hW hS hK hl hp hkv hkd hb1 r1 hXF hX
  go_enter Tryz.func33, Tryz.ntmps33
  go_wp2_with fail
  rw [← hW1]
  clear hW1
  go_region
  obtain ⟨W2, hW2⟩ : ∃ W2, W2 = (W1.alloc (.cells #[.int .i64 4, .func (.func 51) #[] #[], .func (.func 81) #[] #[.pointer (some ⟨X, 0, none⟩)], .func (.func 82) #[] #[.pointer (some ⟨X, 0, none⟩)]] 64)).drew := ⟨_, rfl⟩
  rw [← hW2]
  have hb2 : Below w.heap.size w W2 := by rw [hW2]; exact ((HB1.out.alloc HB1.out.size _).drew)
  have k0 : W2.cell? ⟨w.heap.size + 1, 0, none⟩ = some (.int .i64 4) := by rw [hW2, ← hsz]; simp
  have k2 : W2.cell? ⟨w.heap.size + 1, 2, none⟩ = some (.func (.func 81) #[] #[.pointer (some ⟨X, 0, none⟩)]) := by rw [hW2, ← hsz]; simp
  have p1 : W2.cell? ⟨w.heap.size, 1, none⟩ = some (.string (sB t)) := by rw [hW2]; exact (World.cell?_alloc_lt W1 _ ⟨w.heap.size, 1, none⟩ hlp).trans hp1
  have hz2 : w.heap.size + 1 < W2.heap.size := by rw [hW2]; simp; omega
  have HB2 := hid hb2
  clear hb2 hW2 hp0 hp1 hm hlS hlp hmZ hpZ R0 R1 hsz
  by_cases h0 : ws.length < 1
  · have hv : Hid (v = false) := HV.out.trans (can_lt h0)
    have d0 : decide ((ws.length : Int) < 1) = true := decide_eq_true (by omega)
    go_wp2
    go_ret
    exact ⟨by rw [hv.out]; try rfl, by rw [hv.out]; exact HS.out.on HB2.out, Kept.of HB2.out⟩
  · have d0 : decide ((ws.length : Int) < 1) = false := decide_eq_false (by omega)
    by_cases h4 : 4 < ws.length
    · have hv : Hid (v = false) := HV.out.trans (can_gt4 h4)
      have d4 : decide ((4 : Int) < (ws.length : Int)) = true := decide_eq_true (by omega)
      have d4' : decide (4 < ws.length) = true := decide_eq_true h4
      go_wp2
      go_ret
      exact ⟨by rw [hv.out]; try rfl, by rw [hv.out]; exact HS.out.on HB2.out, Kept.of HB2.out⟩
    · have d4 : decide ((4 : Int) < (ws.length : Int)) = false := decide_eq_false (by omega)
      have d4' : decide (4 < ws.length) = false := decide_eq_false h4
      have CA := hid (allW_any ws A cap W2 HL.out (HW.out.on HB2.out))
      cases hr : ws.all fitW
      · have hv : Hid (v = false) := HV.out.trans (can_nofit hr)
        rw [hr] at CA
        clear hr
        go_wp2_with fail
        refine CA.out.mono ?_
        rintro e w3 ⟨rfl, hb3⟩
        have HB3 := hid (bt HB2.out hb3)
        clear hb3
        go_wp2
        go_ret
        exact ⟨by rw [hv.out]; try rfl, by rw [hv.out]; exact HS.out.on HB3.out, Kept.of HB3.out⟩
      · rw [hr] at CA
        have HR := hid hr
        clear hr
        go_wp2_with fail
        refine CA.out.mono ?_
        rintro e w3 ⟨rfl, hb3⟩
        have k2' := (hb3.cell (p := (⟨w.heap.size + 1, 2, none⟩ : Addr)) hz2).trans k2
        have p1' := (hb3.cell (p := (⟨w.heap.size, 1, none⟩ : Addr)) (show w.heap.size < W2.heap.size by omega)).trans p1
        have HB3 := hid (bt HB2.out hb3)
        clear hb3 k0 k2 p1
        have hfit := fun w hw => List.all_eq_true.1 HR.out w hw
        have hv : Hid (v = true) := HV.out.trans (can_sev t (by decide) (by omega) (by omega) hfit)
        have CT := hid (several6_any ws hfit (by omega) A cap S M X rv (.string (sB t)) a w3 (HW.out.on HB3.out) (HS.out.on HB3.out) ((HB3.out.block _ (heap_lt HX.out)).trans HX.out))
        rw [← hv.out] at CT
        clear hfit
        go_wp2_with fail
        refine CT.out.mono ?_
        rintro e w4 ⟨rfl, hs4, hk4⟩
        have HS4 := hid hs4
        have HK4 := hid hk4
        clear hs4 hk4
        go_wp2
        go_ret
        exact ⟨rfl, HS4.out, (Kept.of HB3.out).trans (HK4.out.mono HB3.out.size)⟩

end Fm
end Go.Proofs.YtcaiejbnhjiflaaGreatDoor
