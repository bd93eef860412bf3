/-
  Contracts of takeCode, of the fields of the kinds, of strings.Join, of what takes several words.
-/
import Derived.Test.YtcaiejbnhjiflaaGreatDoorW6
namespace Go.Proofs.YtcaiejbnhjiflaaGreatDoor
open Go.RowKit Go.ChangeMaps
namespace Fm

def okC (b q : UInt8) : Bool := (decide (q.toNat ≠ 57) || digB b) && (decide (q.toNat ≠ 65) || (capB b || smaB b))
theorem codeW_cons (b q : UInt8) (w p : W) : codeW (b :: w) (q :: p) = (okC b q && codeW w p) := by simp only [codeW, okC]
theorem codeW_append {a b c d : W} (h : a.length = b.length) : codeW (a ++ c) (b ++ d) = (codeW a b && codeW c d) := by
  induction a generalizing b with
  | nil =>
    cases b with
    | nil => simp [codeW]
    | cons => simp at h
  | cons x a ih =>
    cases b with
    | nil => simp at h
    | cons y b =>
      rw [List.cons_append, List.cons_append, codeW_cons, codeW_cons, ih (by simpa using h), Bool.and_assoc]
theorem code_snoc {u t : W} {k : Nat} {b q : UInt8} (hu : u[k]? = some b) (ht : t[k]? = some q) (h : codeW (u.take k) (t.take k) = true) : codeW (u.take (k + 1)) (t.take (k + 1)) = okC b q := by
  have h1 := (List.getElem?_eq_some_iff.1 hu).1
  have h2 := (List.getElem?_eq_some_iff.1 ht).1
  rw [List.take_add_one, List.take_add_one, hu, ht, codeW_append (by rw [List.length_take, List.length_take]; omega), h]
  show (true && codeW [b] [q]) = _
  rw [codeW_cons]; simp [codeW]
theorem code_no {u t : W} {k : Nat} {b q : UInt8} (hl : u.length = t.length) (hu : u[k]? = some b) (ht : t[k]? = some q) (h : okC b q = false) : codeW u t = false := by
  obtain ⟨h1, e1⟩ := List.getElem?_eq_some_iff.1 hu
  obtain ⟨h2, e2⟩ := List.getElem?_eq_some_iff.1 ht
  have x1 : u = u.take k ++ b :: u.drop (k + 1) := by conv => lhs; rw [← List.take_append_drop k u, List.drop_eq_getElem_cons h1, e1]
  have x2 : t = t.take k ++ q :: t.drop (k + 1) := by conv => lhs; rw [← List.take_append_drop k t, List.drop_eq_getElem_cons h2, e2]
  rw [x1, x2, codeW_append (by rw [List.length_take, List.length_take]; omega), codeW_cons, h]; simp
theorem ok_dig (b : UInt8) {q : UInt8} (h : q.toNat = 57) : okC b q = digB b := by unfold okC; rw [h]; simp
theorem ok_cap (b : UInt8) {q : UInt8} (h : q.toNat = 65) : okC (upB b) q = capB (upB b) := by
  unfold okC; rw [h]
  have := upB_cap b
  simp
  intro h2
  rw [upB_cap]
  rw [smaB_iff, upB_nat] at h2
  exfalso
  split at h2 <;> omega
theorem up_at {x : W} {k : Nat} {b : UInt8} (h : (upL x)[k]? = some b) : ∃ c, b = upB c := by
  unfold upL at h
  rw [List.getElem?_map] at h
  obtain ⟨c, _, rfl⟩ := Option.map_eq_some_iff.1 h
  exact ⟨c, rfl⟩
theorem at_get {s : ByteArray} {l : W} (h : s.data.toList = l) {k : Nat} (hk : k < s.size) : l[k]? = some s[k] := by
  subst h
  rw [List.getElem?_eq_getElem (by rw [size_len]; exact hk)]
  rfl

set_option maxRecDepth 100000 in
set_option maxHeartbeats 16000000 in
theorem takeCode_any (t x : W) (ht : patW t = true) (hx : fitW x = true) (A : Option Addr) (cap S M : Nat) (rv : Value) (a : Ad) (w : World) (hW : RdW w A [x] cap) (hS : SB w S M rv a) :
    Calls Tryz.prog 56 #[.pointer (some ⟨S, 0, none⟩), .string (sB t), .slice A 1 cap] w (TakePost 3 [x] (codeW x t) S M rv a w) := by
  obtain ⟨g, o, rfl, hg, hc⟩ := SlR.at hW (k := 0) (u := .string (sB x)) rfl
  obtain ⟨q1, q2, q3⟩ := (patW_iff t).1 ht
  have HS := hid hS
  have hu : upL x = upL x := rfl
  have CU := hid (Tryz.strings_ToUpper_ascii (sB x) w (by rw [sB_size]; have := (fitW_iff x).1 hx; omega) (fit_ascii hx))
  rw [sB_list, upper_up] at CU
  have hxz := sB_size x
  have htz := sB_size t
  clear hW hS
  rw [Nat.add_zero] at hc
  obtain ⟨s, hs⟩ : ∃ s, s = sB x := ⟨_, rfl⟩
  rw [← hs] at hc hxz CU
  clear hs
  obtain ⟨p, hp⟩ : ∃ p, p = sB t := ⟨_, rfl⟩
  rw [← hp] at htz ⊢
  have hpl : p.data.toList = t := by subst hp; rfl
  clear hp
  by_cases hl : x.length = t.length
  · have hv : codeW x t = codeW (upL x) t := (codeW_up x t).symm
    rw [hv]
    obtain ⟨c, hcd⟩ : ∃ c : ByteArray, c = ⟨(upL x).toArray⟩ := ⟨_, rfl⟩
    rw [← hcd] at CU
    have hcl : c.data.toList = upL x := by subst hcd; rfl
    have hcz : c.size = p.size := by rw [← size_len, hcl, upL_length, htz, hl]
    obtain ⟨r, hr⟩ : ∃ r, r = codeW (upL x) t := ⟨_, rfl⟩
    rw [← hr]
    have e0 : ((s.size : Int) != (p.size : Int)) = false := by rw [hxz, htz, hl]; simp
    have HR := hid hr
    have HCL := hid hcl
    have HPL := hid hpl
    have HQ := hid q3
    have HLL : Hid ((upL x).length = t.length) := by rw [upL_length]; exact hl
    have hp8 : p.size ≤ 8 := by omega
    have hle : p.size ≤ c.size := by omega
    have HCX : Hid (c = sB (upL x)) := hcd
    clear hr hcl hpl hcz hxz htz hl hv hu q3 hcd q1 q2 ht hx
    go_enter Tryz.func56, Tryz.ntmps56
    go_wp2_with fail
    refine CU.out.mono ?_
    rintro e w1 ⟨rfl, hb1⟩
    have HB1 := hid hb1
    clear hb1 hc
    go_wp2
    go_loopw [22, 8] (fun i _ wr => ∃ k : Nat, k ≤ p.size ∧ i = .int .i64 k ∧ Hid (codeW ((upL x).take k) (t.take k) = true) ∧ Hid (Below w.heap.size w wr)) (fun i _ _ => p.size - (intOf i).toNat)
    case atStart => exact ⟨0, Nat.zero_le _, rfl, rfl, HB1⟩
    case round =>
      obtain ⟨k, hk, rfl, hC, hB⟩ := hrel
      by_cases hlt : k < p.size
      · have hlc : k < c.size := by omega
        have hk0 : 0 ≤ (k : Int) := by omega
        have hk1 : (k : Int) < (p.size : Int) := by omega
        have hk2 : (k : Int) < (c.size : Int) := by omega
        have hta := at_get HPL.out hlt
        have hua := at_get HCL.out hlc
        obtain ⟨y, hy⟩ := up_at hua
        have hq := (patB_iff _).1 (HQ.out _ (List.mem_of_getElem? hta))
        have CD := hid (fun w => isDigit_any c[k] w)
        have CC := hid (fun w => isCapital_any c[k] w)
        have HUA := hid hua
        have HTA := hid hta
        rcases hq with h57 | h65
        · have a57 : (((p[k]).toNat : Int) == 57) = true := by rw [h57]; rfl
          have a65 : (((p[k]).toNat : Int) == 65) = false := by rw [h57]; rfl
          have hok := ok_dig c[k] h57
          cases hd : digB c[k]
          · have HN : Hid (r = false) := HR.out.trans (code_no HLL.out HUA.out HTA.out (hok.trans hd))
            rw [hd] at CD
            clear hd hok h57 hy hua hta
            go_wp2_with fail
            refine (CD.out _).mono ?_
            rintro e w2 ⟨rfl, rfl⟩
            go_wp2
            go_ret
            exact ⟨by rw [HN.out]; try rfl, by rw [HN.out]; exact HS.out.on hB.out, Kept.of hB.out⟩
          · have HN : Hid (codeW ((upL x).take (k + 1)) (t.take (k + 1)) = true) := (code_snoc HUA.out HTA.out hC.out).trans (hok.trans hd)
            rw [hd] at CD
            clear hd hok h57 hy hua hta
            go_wp2_with fail
            refine (CD.out _).mono ?_
            rintro e w2 ⟨rfl, rfl⟩
            go_wp2
            go_roundw
            case rel => exact ⟨k + 1, by omega, by go_num, HN, hB⟩
            case measure => simp [intOf]; omega
        · have a57 : (((p[k]).toNat : Int) == 57) = false := by rw [h65]; rfl
          have a65 : (((p[k]).toNat : Int) == 65) = true := by rw [h65]; rfl
          have hok : okC c[k] p[k] = capB c[k] := by rw [hy]; exact ok_cap y h65
          cases hd : capB c[k]
          · have HN : Hid (r = false) := HR.out.trans (code_no HLL.out HUA.out HTA.out (hok.trans hd))
            rw [hd] at CC
            clear hd hok h65 hy hua hta
            go_wp2_with fail
            refine (CC.out _).mono ?_
            rintro e w2 ⟨rfl, rfl⟩
            go_wp2
            go_ret
            exact ⟨by rw [HN.out]; try rfl, by rw [HN.out]; exact HS.out.on hB.out, Kept.of hB.out⟩
          · have HN : Hid (codeW ((upL x).take (k + 1)) (t.take (k + 1)) = true) := (code_snoc HUA.out HTA.out hC.out).trans (hok.trans hd)
            rw [hd] at CC
            clear hd hok h65 hy hua hta
            go_wp2_with fail
            refine (CC.out _).mono ?_
            rintro e w2 ⟨rfl, rfl⟩
            go_wp2
            go_roundw
            case rel => exact ⟨k + 1, by omega, by go_num, HN, hB⟩
            case measure => simp [intOf]; omega
      · have hkk : k = p.size := by omega
        have HN : Hid (r = true) := by
          have h1 := hC.out
          have h2 : t.length = p.size := by rw [← HPL.out, size_len]
          rw [List.take_of_length_le (by rw [HLL.out]; omega), List.take_of_length_le (by omega)] at h1
          exact HR.out.trans h1
        subst hkk
        have HS2 := hid (HS.out.on hB.out)
        have hc2 := HS2.out.cell.2.2.2.1
        have hf2 := HS2.out.free 3
        go_wp2
        go_ret
        refine ⟨by rw [HN.out]; try rfl, ?_, (Kept.of hB.out).set 3 _⟩
        rw [HN.out, if_pos rfl]
        refine HS2.out.set 3 _ ?_
        rw [HCX.out]; rfl
  · have hv : codeW x t = false := by
      cases h : codeW x t
      · rfl
      · exact absurd (codeW_len h) hl
    have e0 : ((s.size : Int) != (p.size : Int)) = true := by rw [hxz, htz]; simp; omega
    rw [hv]
    clear hv hl hxz htz hu
    go_enter Tryz.func56, Tryz.ntmps56
    go_wp2
    go_ret
    exact ⟨rfl, HS.out, Kept.refl _ _ _⟩

/-- strings.Join with a blank. -/
theorem join_any (ws : List W) (A : Option Addr) (cap : Nat) (w : World) (hW : RdW w A ws cap) (h1 : ws.length ≤ 100000) (h2 : (joinW ws).length ≤ 1000000) :
    Calls Tryz.prog 34 #[.slice A ws.length cap, .string ⟨#[32]⟩] w fun e w' => e = .returned (.string (sB (joinW ws))) ∧ Below w.heap.size w w' := by
  by_cases h0 : ws = []
  · subst h0
    exact (Tryz.strings_Join_none A cap _ w).mono fun _ _ ⟨he, hw⟩ => ⟨he, by rw [hw]; exact Below.refl _ _⟩
  · have hp : 0 < ws.length := by
      have : ws.length ≠ 0 := fun k => h0 (List.length_eq_zero_iff.1 k)
      omega
    obtain ⟨g, o, rfl, hg, hc⟩ := hW.2.2 hp
    have hx : (ws.map sB).map (·.data.toList) = ws := by rw [List.map_map]; exact List.map_id' _
    have C := Tryz.strings_Join g o cap (ws.map sB) ⟨#[32]⟩ w (fun j x hj => by
      refine hc j (.string x) ?_
      rw [List.getElem?_map] at hj ⊢
      obtain ⟨y, hy, rfl⟩ := Option.map_eq_some_iff.1 hj
      rw [hy]; rfl) hg (by rw [List.length_map]; omega) (by rw [List.length_map]; exact hW.2.1) (by rw [hx]; show (Lib.join ws [32]).length ≤ _; rw [lib_join]; omega)
    rw [hx, List.length_map] at C
    have hj : Lib.join ws (⟨#[32]⟩ : ByteArray).data.toList = joinW ws := lib_join ws
    rw [hj] at C
    exact C
theorem join_len (ws : List W) : (joinW ws).length ≤ (ws.map List.length).sum + ws.length := by
  induction ws with
  | nil => exact Nat.le_refl _
  | cons a ws ih =>
    match ws with
    | [] => simp [joinW]
    | b :: r =>
      rw [join_two, List.length_append, List.length_cons, List.map_cons, List.sum_cons, List.length_cons]
      omega
theorem join_fit {ws : List W} (h : ∀ w ∈ ws, fitW w = true) : (joinW ws).length ≤ ws.length * 21 := by
  have h1 := join_len ws
  have h2 : (ws.map List.length).sum ≤ ws.length * 20 := by
    clear h1
    induction ws with
    | nil => simp
    | cons a ws ih =>
      have := ih fun w hw => h w (List.mem_cons_of_mem _ hw)
      have h3 := ((fitW_iff a).1 (h a (List.mem_cons_self ..))).2.1
      rw [List.map_cons, List.sum_cons, List.length_cons]; omega
  omega

set_option maxHeartbeats 1000000 in
theorem field4_any (S : Nat) (w : World) :
    Calls Tryz.prog 59 #[.pointer (some ⟨S, 0, none⟩)] w fun e w' => e = .returned (.pointer (some ⟨S, 1, none⟩)) ∧ w = w' := by
  go_enter Tryz.func59, Tryz.ntmps59
  go_wp2
  go_ret
  exact ⟨rfl, rfl⟩

set_option maxRecDepth 100000 in
set_option maxHeartbeats 8000000 in
theorem several4_any (ws : List W) (hf : ∀ x ∈ ws, fitW x = true) (h4 : ws.length ≤ 4) (A : Option Addr) (cap S M X : Nat) (rv tv : Value) (a : Ad) (w : World) (hW : RdW w A ws cap) (hS : SB w S M rv a)
    (hX : w.heap[X]? = some (.cells #[fnV 59] 80 (0, 0))) :
    Calls Tryz.prog 81 #[.pointer (some ⟨S, 0, none⟩), tv, .slice A ws.length cap, .pointer (some ⟨X, 0, none⟩)] w (TakePost 4 ws true S M rv a w) := by
  have hxc : w.cell? ⟨X, 0, none⟩ = some (.func (.func 59) #[] #[]) := by simp [World.cell?, hX, fnV]
  have hlX := heap_lt hX
  have hlS := hS.lt
  have hjl := join_fit hf
  have HW := hid hW
  have HS := hid hS
  have HJ := hid hjl
  have CJ := hid (join_any ws A cap w.drew hW (by omega) (by omega))
  have CF := hid (fun u => field4_any S u)
  obtain ⟨s, hs⟩ : ∃ s, s = sB (joinW ws) := ⟨_, rfl⟩
  rw [← hs] at CJ
  have HSS := hid hs
  clear hs hjl hW hS hX
  go_enter Tryz.func81, Tryz.ntmps81
  go_wp2_with fail
  go_region_with (first
    | (go_at_call 59; ((with_reducible refine (CF.out _).mono ?_); rintro e w2 ⟨rfl, rfl⟩))
    | (go_at_call 34; ((with_reducible refine CJ.out.mono ?_); rintro e w3 ⟨rfl, hb3⟩; have HB3 := hid ((Below.refl w.heap.size w).drew.trans hb3 : Below w.heap.size w w3); have hsc := (HS.out.on HB3.out).cell.2.1; have hsf := (HS.out.on HB3.out).free 1; have hxc3 := (HB3.out.cell (p := (⟨X, 0, none⟩ : Addr)) hlX).trans hxc; clear hb3)))
  go_wp2
  go_ret
  refine ⟨rfl, ?_, (Kept.of HB3.out).set 1 _⟩
  rw [if_pos rfl]
  refine (HS.out.on HB3.out).set 1 _ ?_
  rw [HSS.out]; rfl

set_option maxHeartbeats 1000000 in
theorem field5_any (S : Nat) (w : World) :
    Calls Tryz.prog 60 #[.pointer (some ⟨S, 0, none⟩)] w fun e w' => e = .returned (.pointer (some ⟨S, 4, none⟩)) ∧ w = w' := by
  go_enter Tryz.func60, Tryz.ntmps60
  go_wp2
  go_ret
  exact ⟨rfl, rfl⟩

set_option maxRecDepth 100000 in
set_option maxHeartbeats 8000000 in
theorem several5_any (ws : List W) (hf : ∀ x ∈ ws, fitW x = true) (h4 : ws.length ≤ 4) (A : Option Addr) (cap S M X : Nat) (rv tv : Value) (a : Ad) (w : World) (hW : RdW w A ws cap) (hS : SB w S M rv a)
    (hX : w.heap[X]? = some (.cells #[fnV 60] 80 (0, 0))) :
    Calls Tryz.prog 81 #[.pointer (some ⟨S, 0, none⟩), tv, .slice A ws.length cap, .pointer (some ⟨X, 0, none⟩)] w (TakePost 5 ws true S M rv a w) := by
  have hxc : w.cell? ⟨X, 0, none⟩ = some (.func (.func 60) #[] #[]) := by simp [World.cell?, hX, fnV]
  have hlX := heap_lt hX
  have hlS := hS.lt
  have hjl := join_fit hf
  have HW := hid hW
  have HS := hid hS
  have HJ := hid hjl
  have CJ := hid (join_any ws A cap w.drew hW (by omega) (by omega))
  have CF := hid (fun u => field5_any S u)
  obtain ⟨s, hs⟩ : ∃ s, s = sB (joinW ws) := ⟨_, rfl⟩
  rw [← hs] at CJ
  have HSS := hid hs
  clear hs hjl hW hS hX
  go_enter Tryz.func81, Tryz.ntmps81
  go_wp2_with fail
  go_region_with (first
    | (go_at_call 60; ((with_reducible refine (CF.out _).mono ?_); rintro e w2 ⟨rfl, rfl⟩))
    | (go_at_call 34; ((with_reducible refine CJ.out.mono ?_); rintro e w3 ⟨rfl, hb3⟩; have HB3 := hid ((Below.refl w.heap.size w).drew.trans hb3 : Below w.heap.size w w3); have hsc := (HS.out.on HB3.out).cell.2.2.2.2.1; have hsf := (HS.out.on HB3.out).free 4; have hxc3 := (HB3.out.cell (p := (⟨X, 0, none⟩ : Addr)) hlX).trans hxc; clear hb3)))
  go_wp2
  go_ret
  refine ⟨rfl, ?_, (Kept.of HB3.out).set 4 _⟩
  rw [if_pos rfl]
  refine (HS.out.on HB3.out).set 4 _ ?_
  rw [HSS.out]; rfl

set_option maxHeartbeats 1000000 in
theorem field6_any (S : Nat) (w : World) :
    Calls Tryz.prog 61 #[.pointer (some ⟨S, 0, none⟩)] w fun e w' => e = .returned (.pointer (some ⟨S, 0, none⟩)) ∧ w = w' := by
  go_enter Tryz.func61, Tryz.ntmps61
  go_wp2
  go_ret
  exact ⟨rfl, rfl⟩

set_option maxRecDepth 100000 in
set_option maxHeartbeats 8000000 in
theorem several6_any (ws : List W) (hf : ∀ x ∈ ws, fitW x = true) (h4 : ws.length ≤ 4) (A : Option Addr) (cap S M X : Nat) (rv tv : Value) (a : Ad) (w : World) (hW : RdW w A ws cap) (hS : SB w S M rv a)
    (hX : w.heap[X]? = some (.cells #[fnV 61] 80 (0, 0))) :
    Calls Tryz.prog 81 #[.pointer (some ⟨S, 0, none⟩), tv, .slice A ws.length cap, .pointer (some ⟨X, 0, none⟩)] w (TakePost 6 ws true S M rv a w) := by
  have hxc : w.cell? ⟨X, 0, none⟩ = some (.func (.func 61) #[] #[]) := by simp [World.cell?, hX, fnV]
  have hlX := heap_lt hX
  have hlS := hS.lt
  have hjl := join_fit hf
  have HW := hid hW
  have HS := hid hS
  have HJ := hid hjl
  have CJ := hid (join_any ws A cap w.drew hW (by omega) (by omega))
  have CF := hid (fun u => field6_any S u)
  obtain ⟨s, hs⟩ : ∃ s, s = sB (joinW ws) := ⟨_, rfl⟩
  rw [← hs] at CJ
  have HSS := hid hs
  clear hs hjl hW hS hX
  go_enter Tryz.func81, Tryz.ntmps81
  go_wp2_with fail
  go_region_with (first
    | (go_at_call 61; ((with_reducible refine (CF.out _).mono ?_); rintro e w2 ⟨rfl, rfl⟩))
    | (go_at_call 34; ((with_reducible refine CJ.out.mono ?_); rintro e w3 ⟨rfl, hb3⟩; have HB3 := hid ((Below.refl w.heap.size w).drew.trans hb3 : Below w.heap.size w w3); have hsc := (HS.out.on HB3.out).cell.1; have hsf := (HS.out.on HB3.out).free 0; have hxc3 := (HB3.out.cell (p := (⟨X, 0, none⟩ : Addr)) hlX).trans hxc; clear hb3)))
  go_wp2
  go_ret
  refine ⟨rfl, ?_, (Kept.of HB3.out).set 0 _⟩
  rw [if_pos rfl]
  refine (HS.out.on HB3.out).set 0 _ ?_
  rw [HSS.out]; rfl

end Fm
end Go.Proofs.YtcaiejbnhjiflaaGreatDoor
