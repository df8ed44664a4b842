/- The document's words on which packets are for a port, and which of ARP. Conditions: those that each states. -/
import Derived.Test.YtmalkimhngealaaFltH
namespace Go.Proofs.Ytmalkimhngealaa
open Go.ChangeShapes Go.WideShapes Go.ChangeAt Go.RowKit Go.Deep
set_option linter.unusedVariables false
theorem byt_at {s : ByteArray} {i : Nat} (h : i < s.size) : byt s.data.toList i = (s[i]).toNat := by
  have h' : i < s.data.toList.length := by rw [Array.length_toList]; exact h
  unfold byt
  rw [List.getD_eq_getElem?_getD, List.getElem?_eq_getElem h']
  rfl
theorem len_at (s : ByteArray) : s.data.toList.length = s.size := Array.length_toList
theorem refarp_v (s : ByteArray) (v : Bool) (hv : v = arpB s.data.toList) (w : World) :
    Calls Try.prog 11 #[.string s] w fun e w' => e = .returned (.bool v) ∧ w' = w := by
  unfold arpB at hv
  rw [len_at] at hv
  by_cases h : 14 ≤ s.size
  · have h12 : 12 < s.size := by omega
    have h13 : 13 < s.size := by omega
    rw [byt_at h12, byt_at h13] at hv
    have hs : (s.size : Int) ≥ 14 := by omega
    by_cases q : s[12].toNat = 8
    · have q' : ((s[12].toNat : Int) == 8) = true := by rw [beq_iff_eq]; omega
      by_cases p : s[13].toNat = 6
      · have p' : ((s[13].toNat : Int) == 6) = true := by rw [beq_iff_eq]; omega
        have e : v = true := by rw [hv, decide_eq_true_eq]; omega
        subst e
        clear hv q p h
        go_enter Try.func11, Try.ntmps11
        go_wp2
        go_ret
        exact ⟨rfl, rfl⟩
      · have p' : ((s[13].toNat : Int) == 6) = false := by rw [beq_eq_false_iff_ne]; omega
        have e : v = false := by rw [hv, decide_eq_false_iff_not]; omega
        subst e
        clear hv q p h
        go_enter Try.func11, Try.ntmps11
        go_wp2
        go_ret
        exact ⟨rfl, rfl⟩
    · have q' : ((s[12].toNat : Int) == 8) = false := by rw [beq_eq_false_iff_ne]; omega
      have e : v = false := by rw [hv, decide_eq_false_iff_not]; omega
      subst e
      clear hv q h
      go_enter Try.func11, Try.ntmps11
      go_wp2
      go_ret
      exact ⟨rfl, rfl⟩
  · have hs : ¬ (s.size : Int) ≥ 14 := by omega
    have e : v = false := by rw [hv, decide_eq_false_iff_not]; omega
    subst e
    clear hv h
    go_enter Try.func11, Try.ntmps11
    go_wp2
    go_ret
    exact ⟨rfl, rfl⟩
set_option maxHeartbeats 1000000 in
theorem refhost_v (s : ByteArray) (port : Int) (p0 : 0 ≤ port) (p1 : port < 65536) (v : Bool) (hv : v = hostB s.data.toList port) (w : World) :
    Calls Try.prog 10 #[.string s, .int .u16 port] w fun e w' => e = .returned (.bool v) ∧ w' = w := by
  unfold hostB at hv
  rw [len_at] at hv
  by_cases h : 38 ≤ s.size
  · have h12 : 12 < s.size := by omega
    have h13 : 13 < s.size := by omega
    have h14 : 14 < s.size := by omega
    have h23 : 23 < s.size := by omega
    have h36 : 36 < s.size := by omega
    have h37 : 37 < s.size := by omega
    rw [byt_at h12, byt_at h13, byt_at h14, byt_at h23, byt_at h36, byt_at h37] at hv
    have hs : (s.size : Int) ≥ 38 := by omega
    have td : port.tdiv 256 = port / 256 := Int.tdiv_eq_ediv_of_nonneg p0
    have tm : port.tmod 256 = port % 256 := Int.tmod_eq_emod_of_nonneg p0
    have xw : IntKind.u16.wrap (port / 256) = port / 256 := by show (port / 256) % 65536 = _; omega
    have m1 : port / 256 % 256 = port / 256 := by omega
    have m2 : port % 256 % 256 = port % 256 := by omega
    by_cases q12 : (s[12].toNat : Int) = 8
    · have p12 : ((s[12].toNat : Int) == 8) = true := by rw [beq_iff_eq]; exact q12
      by_cases q13 : (s[13].toNat : Int) = 0
      · have p13 : ((s[13].toNat : Int) == 0) = true := by rw [beq_iff_eq]; exact q13
        by_cases q14 : (s[14].toNat : Int) = 69
        · have p14 : ((s[14].toNat : Int) == 69) = true := by rw [beq_iff_eq]; exact q14
          by_cases q23 : (s[23].toNat : Int) = 6
          · have p23 : ((s[23].toNat : Int) == 6) = true := by rw [beq_iff_eq]; exact q23
            by_cases q36 : (s[36].toNat : Int) = port / 256
            · have p36 : ((s[36].toNat : Int) == port / 256) = true := by rw [beq_iff_eq]; exact q36
              by_cases q37 : (s[37].toNat : Int) = port % 256
              · have p37 : ((s[37].toNat : Int) == port % 256) = true := by rw [beq_iff_eq]; exact q37
                have e : v = true := by rw [hv, decide_eq_true_eq]; omega
                subst e
                clear hv h
                go_enter Try.func10, Try.ntmps10
                go_wp2
                go_ret
                exact ⟨rfl, rfl⟩
              · have p37 : ((s[37].toNat : Int) == port % 256) = false := by rw [beq_eq_false_iff_ne]; exact q37
                have e : v = false := by rw [hv, decide_eq_false_iff_not]; omega
                subst e
                clear hv h
                go_enter Try.func10, Try.ntmps10
                go_wp2
                go_ret
                exact ⟨rfl, rfl⟩
            · have p36 : ((s[36].toNat : Int) == port / 256) = false := by rw [beq_eq_false_iff_ne]; exact q36
              have e : v = false := by rw [hv, decide_eq_false_iff_not]; omega
              subst e
              clear hv h
              go_enter Try.func10, Try.ntmps10
              go_wp2
              go_ret
              exact ⟨rfl, rfl⟩
          · have p23 : ((s[23].toNat : Int) == 6) = false := by rw [beq_eq_false_iff_ne]; exact q23
            have e : v = false := by rw [hv, decide_eq_false_iff_not]; omega
            subst e
            clear hv h
            go_enter Try.func10, Try.ntmps10
            go_wp2
            go_ret
            exact ⟨rfl, rfl⟩
        · have p14 : ((s[14].toNat : Int) == 69) = false := by rw [beq_eq_false_iff_ne]; exact q14
          have e : v = false := by rw [hv, decide_eq_false_iff_not]; omega
          subst e
          clear hv h
          go_enter Try.func10, Try.ntmps10
          go_wp2
          go_ret
          exact ⟨rfl, rfl⟩
      · have p13 : ((s[13].toNat : Int) == 0) = false := by rw [beq_eq_false_iff_ne]; exact q13
        have e : v = false := by rw [hv, decide_eq_false_iff_not]; omega
        subst e
        clear hv h
        go_enter Try.func10, Try.ntmps10
        go_wp2
        go_ret
        exact ⟨rfl, rfl⟩
    · have p12 : ((s[12].toNat : Int) == 8) = false := by rw [beq_eq_false_iff_ne]; exact q12
      have e : v = false := by rw [hv, decide_eq_false_iff_not]; omega
      subst e
      clear hv h
      go_enter Try.func10, Try.ntmps10
      go_wp2
      go_ret
      exact ⟨rfl, rfl⟩
  · have hs : ¬ (s.size : Int) ≥ 38 := by omega
    have e : v = false := by rw [hv, decide_eq_false_iff_not]; omega
    subst e
    clear hv h
    go_enter Try.func10, Try.ntmps10
    go_wp2
    go_ret
    exact ⟨rfl, rfl⟩
end Go.Proofs.Ytmalkimhngealaa
