/- The sample's other rules. -/
import Derived.Test.YtannndpamhgknaaGreatDoorMBlSmp
namespace Go.Proofs.YtannndpamhgknaaGreatDoor.Bl
open Go.RowKit Gr

def othersA : List Rule := [⟨2, [(-1), (-55), (-1)], 3, [0, 2], 0⟩, ⟨2, [(-1), (-55), (-1), (-55), (-1)], 3, [0, 2, 4], 0⟩, ⟨2, [(-1), (-6)], 4, [0, 1], 1⟩, ⟨2, [(-1), (-55), (-1), (-6)], 4, [0, 2, 3], 0⟩, ⟨3, [1, 2], 5, [0, 1], 0⟩, ⟨4, [(-1)], 8, [0], 0⟩, ⟨4, [(-1), (-53), (-1)], 9, [0, 2], 0⟩, ⟨4, [(-1), (-54), (-1)], 10, [0, 2], 1⟩, ⟨4, [(-52), 4], 11, [1], 1⟩, ⟨5, [(-7), 4], 12, [0, 1], 0⟩, ⟨5, [4, (-7)], 12, [1, 0], 0⟩, ⟨9, [(-1), (-8)], 13, [0, 1], 0⟩, ⟨6, [9], 0, [0], 0⟩, ⟨6, [6, 9], 14, [0, 1], 1⟩, ⟨7, [1, (-9), 1], 15, [0, 2], 0⟩]
def pickR (i : Nat) : Rule := ⟨0, [(i : Int)], 0, [0], (i : Int).tmod 3⟩
/-- With the picks of the symbols 1 .. m. -/
def othersM (m : Nat) : List Rule := othersA ++ (List.range m).map fun i => pickR (i + 1)
theorem othersM_succ (m : Nat) : othersM (m + 1) = othersM m ++ [pickR (m + 1)] := by simp [othersM, List.range_succ]
theorem othersM_length (m : Nat) : (othersM m).length = 15 + m := by simp [othersM, othersA]; omega
set_option maxRecDepth 8000 in
set_option maxHeartbeats 8000000 in
theorem others_any (w0 : World) : Calls Tryz.prog 72 #[] w0 fun e w' => ∃ v, e = .returned v ∧ Stl w' (fun W => RulesOk W v (othersM 7)) ∧ Below w0.heap.size w0 w' := by
  go_enter Tryz.func72, Tryz.ntmps72
  go_wp2_with fail
  refine (lrule_lit 2 3 0 [(-1), (-55), (-1)] [0, 2] #[.int .i64 (-1), .int .i64 (-55), .int .i64 (-1)] #[.int .i64 0, .int .i64 2] rfl rfl 3 2 rfl rfl (by decide) w0 _ _ rfl rfl).mono ?_
  rintro e w1 ⟨rfl, q0, b0⟩
  have HQ0 := hid q0
  have HD0 := hid b0
  clear q0
  clear b0
  go_wp2_with fail
  refine (lrule_lit 2 3 0 [(-1), (-55), (-1), (-55), (-1)] [0, 2, 4] #[.int .i64 (-1), .int .i64 (-55), .int .i64 (-1), .int .i64 (-55), .int .i64 (-1)] #[.int .i64 0, .int .i64 2, .int .i64 4] rfl rfl 5 3 rfl rfl (by decide) w1 _ _ rfl rfl).mono ?_
  rintro e w2 ⟨rfl, q1, b1⟩
  have HQ1 := hid q1
  have HD1 := hid b1
  clear q1
  clear b1
  go_wp2_with fail
  refine (lrule_lit 2 4 1 [(-1), (-6)] [0, 1] #[.int .i64 (-1), .int .i64 (-6)] #[.int .i64 0, .int .i64 1] rfl rfl 2 2 rfl rfl (by decide) w2 _ _ rfl rfl).mono ?_
  rintro e w3 ⟨rfl, q2, b2⟩
  have HQ2 := hid q2
  have HD2 := hid b2
  clear q2
  clear b2
  go_wp2_with fail
  refine (lrule_lit 2 4 0 [(-1), (-55), (-1), (-6)] [0, 2, 3] #[.int .i64 (-1), .int .i64 (-55), .int .i64 (-1), .int .i64 (-6)] #[.int .i64 0, .int .i64 2, .int .i64 3] rfl rfl 4 3 rfl rfl (by decide) w3 _ _ rfl rfl).mono ?_
  rintro e w4 ⟨rfl, q3, b3⟩
  have HQ3 := hid q3
  have HD3 := hid b3
  clear q3
  clear b3
  go_wp2_with fail
  refine (lrule_lit 3 5 0 [1, 2] [0, 1] #[.int .i64 1, .int .i64 2] #[.int .i64 0, .int .i64 1] rfl rfl 2 2 rfl rfl (by decide) w4 _ _ rfl rfl).mono ?_
  rintro e w5 ⟨rfl, q4, b4⟩
  have HQ4 := hid q4
  have HD4 := hid b4
  clear q4
  clear b4
  go_wp2_with fail
  refine (lrule_lit 4 8 0 [(-1)] [0] #[.int .i64 (-1)] #[.int .i64 0] rfl rfl 1 1 rfl rfl (by decide) w5 _ _ rfl rfl).mono ?_
  rintro e w6 ⟨rfl, q5, b5⟩
  have HQ5 := hid q5
  have HD5 := hid b5
  clear q5
  clear b5
  go_wp2_with fail
  refine (lrule_lit 4 9 0 [(-1), (-53), (-1)] [0, 2] #[.int .i64 (-1), .int .i64 (-53), .int .i64 (-1)] #[.int .i64 0, .int .i64 2] rfl rfl 3 2 rfl rfl (by decide) w6 _ _ rfl rfl).mono ?_
  rintro e w7 ⟨rfl, q6, b6⟩
  have HQ6 := hid q6
  have HD6 := hid b6
  clear q6
  clear b6
  go_wp2_with fail
  refine (lrule_lit 4 10 1 [(-1), (-54), (-1)] [0, 2] #[.int .i64 (-1), .int .i64 (-54), .int .i64 (-1)] #[.int .i64 0, .int .i64 2] rfl rfl 3 2 rfl rfl (by decide) w7 _ _ rfl rfl).mono ?_
  rintro e w8 ⟨rfl, q7, b7⟩
  have HQ7 := hid q7
  have HD7 := hid b7
  clear q7
  clear b7
  go_wp2_with fail
  refine (lrule_lit 4 11 1 [(-52), 4] [1] #[.int .i64 (-52), .int .i64 4] #[.int .i64 1] rfl rfl 2 1 rfl rfl (by decide) w8 _ _ rfl rfl).mono ?_
  rintro e w9 ⟨rfl, q8, b8⟩
  have HQ8 := hid q8
  have HD8 := hid b8
  clear q8
  clear b8
  go_wp2_with fail
  refine (lrule_lit 5 12 0 [(-7), 4] [0, 1] #[.int .i64 (-7), .int .i64 4] #[.int .i64 0, .int .i64 1] rfl rfl 2 2 rfl rfl (by decide) w9 _ _ rfl rfl).mono ?_
  rintro e w10 ⟨rfl, q9, b9⟩
  have HQ9 := hid q9
  have HD9 := hid b9
  clear q9
  clear b9
  go_wp2_with fail
  refine (lrule_lit 5 12 0 [4, (-7)] [1, 0] #[.int .i64 4, .int .i64 (-7)] #[.int .i64 1, .int .i64 0] rfl rfl 2 2 rfl rfl (by decide) w10 _ _ rfl rfl).mono ?_
  rintro e w11 ⟨rfl, q10, b10⟩
  have HQ10 := hid q10
  have HD10 := hid b10
  clear q10
  clear b10
  go_wp2_with fail
  refine (lrule_lit 9 13 0 [(-1), (-8)] [0, 1] #[.int .i64 (-1), .int .i64 (-8)] #[.int .i64 0, .int .i64 1] rfl rfl 2 2 rfl rfl (by decide) w11 _ _ rfl rfl).mono ?_
  rintro e w12 ⟨rfl, q11, b11⟩
  have HQ11 := hid q11
  have HD11 := hid b11
  clear q11
  clear b11
  go_wp2_with fail
  refine (lrule_lit 6 0 0 [9] [0] #[.int .i64 9] #[.int .i64 0] rfl rfl 1 1 rfl rfl (by decide) w12 _ _ rfl rfl).mono ?_
  rintro e w13 ⟨rfl, q12, b12⟩
  have HQ12 := hid q12
  have HD12 := hid b12
  clear q12
  clear b12
  go_wp2_with fail
  refine (lrule_lit 6 14 1 [6, 9] [0, 1] #[.int .i64 6, .int .i64 9] #[.int .i64 0, .int .i64 1] rfl rfl 2 2 rfl rfl (by decide) w13 _ _ rfl rfl).mono ?_
  rintro e w14 ⟨rfl, q13, b13⟩
  have HQ13 := hid q13
  have HD13 := hid b13
  clear q13
  clear b13
  go_wp2_with fail
  refine (lrule_lit 7 15 0 [1, (-9), 1] [0, 2] #[.int .i64 1, .int .i64 (-9), .int .i64 1] #[.int .i64 0, .int .i64 2] rfl rfl 3 2 rfl rfl (by decide) w14 _ _ rfl rfl).mono ?_
  rintro e w15 ⟨rfl, q14, b14⟩
  have HQ14 := hid q14
  have HD14 := hid b14
  clear q14
  clear b14
  have HE15 := hid (Below.refl w15.heap.size w15)
  have HE14 := hid (up_trans HD14.out HE15.out)
  have HE13 := hid (up_trans HD13.out HE14.out)
  have HE12 := hid (up_trans HD12.out HE13.out)
  have HE11 := hid (up_trans HD11.out HE12.out)
  have HE10 := hid (up_trans HD10.out HE11.out)
  have HE9 := hid (up_trans HD9.out HE10.out)
  have HE8 := hid (up_trans HD8.out HE9.out)
  have HE7 := hid (up_trans HD7.out HE8.out)
  have HE6 := hid (up_trans HD6.out HE7.out)
  have HE5 := hid (up_trans HD5.out HE6.out)
  have HE4 := hid (up_trans HD4.out HE5.out)
  have HE3 := hid (up_trans HD3.out HE4.out)
  have HE2 := hid (up_trans HD2.out HE3.out)
  have HE1 := hid (up_trans HD1.out HE2.out)
  have HE0 := hid (up_trans HD0.out HE1.out)
  have HO := hid (own_lit w15 120 5 15 w15.heap.size #[.int .i64 2, .slice (some ⟨w0.heap.size, 0, none⟩) 3 3, .int .i64 3, .slice (some ⟨w0.heap.size + 1, 0, none⟩) 2 2, .int .i64 0, .int .i64 2, .slice (some ⟨w1.heap.size, 0, none⟩) 5 5, .int .i64 3, .slice (some ⟨w1.heap.size + 1, 0, none⟩) 3 3, .int .i64 0, .int .i64 2, .slice (some ⟨w2.heap.size, 0, none⟩) 2 2, .int .i64 4, .slice (some ⟨w2.heap.size + 1, 0, none⟩) 2 2, .int .i64 1, .int .i64 2, .slice (some ⟨w3.heap.size, 0, none⟩) 4 4, .int .i64 4, .slice (some ⟨w3.heap.size + 1, 0, none⟩) 3 3, .int .i64 0, .int .i64 3, .slice (some ⟨w4.heap.size, 0, none⟩) 2 2, .int .i64 5, .slice (some ⟨w4.heap.size + 1, 0, none⟩) 2 2, .int .i64 0, .int .i64 4, .slice (some ⟨w5.heap.size, 0, none⟩) 1 1, .int .i64 8, .slice (some ⟨w5.heap.size + 1, 0, none⟩) 1 1, .int .i64 0, .int .i64 4, .slice (some ⟨w6.heap.size, 0, none⟩) 3 3, .int .i64 9, .slice (some ⟨w6.heap.size + 1, 0, none⟩) 2 2, .int .i64 0, .int .i64 4, .slice (some ⟨w7.heap.size, 0, none⟩) 3 3, .int .i64 10, .slice (some ⟨w7.heap.size + 1, 0, none⟩) 2 2, .int .i64 1, .int .i64 4, .slice (some ⟨w8.heap.size, 0, none⟩) 2 2, .int .i64 11, .slice (some ⟨w8.heap.size + 1, 0, none⟩) 1 1, .int .i64 1, .int .i64 5, .slice (some ⟨w9.heap.size, 0, none⟩) 2 2, .int .i64 12, .slice (some ⟨w9.heap.size + 1, 0, none⟩) 2 2, .int .i64 0, .int .i64 5, .slice (some ⟨w10.heap.size, 0, none⟩) 2 2, .int .i64 12, .slice (some ⟨w10.heap.size + 1, 0, none⟩) 2 2, .int .i64 0, .int .i64 9, .slice (some ⟨w11.heap.size, 0, none⟩) 2 2, .int .i64 13, .slice (some ⟨w11.heap.size + 1, 0, none⟩) 2 2, .int .i64 0, .int .i64 6, .slice (some ⟨w12.heap.size, 0, none⟩) 1 1, .int .i64 0, .slice (some ⟨w12.heap.size + 1, 0, none⟩) 1 1, .int .i64 0, .int .i64 6, .slice (some ⟨w13.heap.size, 0, none⟩) 2 2, .int .i64 14, .slice (some ⟨w13.heap.size + 1, 0, none⟩) 2 2, .int .i64 1, .int .i64 7, .slice (some ⟨w14.heap.size, 0, none⟩) 3 3, .int .i64 15, .slice (some ⟨w14.heap.size + 1, 0, none⟩) 2 2, .int .i64 0] [.int .i64 2, .slice (some ⟨w0.heap.size, 0, none⟩) 3 3, .int .i64 3, .slice (some ⟨w0.heap.size + 1, 0, none⟩) 2 2, .int .i64 0, .int .i64 2, .slice (some ⟨w1.heap.size, 0, none⟩) 5 5, .int .i64 3, .slice (some ⟨w1.heap.size + 1, 0, none⟩) 3 3, .int .i64 0, .int .i64 2, .slice (some ⟨w2.heap.size, 0, none⟩) 2 2, .int .i64 4, .slice (some ⟨w2.heap.size + 1, 0, none⟩) 2 2, .int .i64 1, .int .i64 2, .slice (some ⟨w3.heap.size, 0, none⟩) 4 4, .int .i64 4, .slice (some ⟨w3.heap.size + 1, 0, none⟩) 3 3, .int .i64 0, .int .i64 3, .slice (some ⟨w4.heap.size, 0, none⟩) 2 2, .int .i64 5, .slice (some ⟨w4.heap.size + 1, 0, none⟩) 2 2, .int .i64 0, .int .i64 4, .slice (some ⟨w5.heap.size, 0, none⟩) 1 1, .int .i64 8, .slice (some ⟨w5.heap.size + 1, 0, none⟩) 1 1, .int .i64 0, .int .i64 4, .slice (some ⟨w6.heap.size, 0, none⟩) 3 3, .int .i64 9, .slice (some ⟨w6.heap.size + 1, 0, none⟩) 2 2, .int .i64 0, .int .i64 4, .slice (some ⟨w7.heap.size, 0, none⟩) 3 3, .int .i64 10, .slice (some ⟨w7.heap.size + 1, 0, none⟩) 2 2, .int .i64 1, .int .i64 4, .slice (some ⟨w8.heap.size, 0, none⟩) 2 2, .int .i64 11, .slice (some ⟨w8.heap.size + 1, 0, none⟩) 1 1, .int .i64 1, .int .i64 5, .slice (some ⟨w9.heap.size, 0, none⟩) 2 2, .int .i64 12, .slice (some ⟨w9.heap.size + 1, 0, none⟩) 2 2, .int .i64 0, .int .i64 5, .slice (some ⟨w10.heap.size, 0, none⟩) 2 2, .int .i64 12, .slice (some ⟨w10.heap.size + 1, 0, none⟩) 2 2, .int .i64 0, .int .i64 9, .slice (some ⟨w11.heap.size, 0, none⟩) 2 2, .int .i64 13, .slice (some ⟨w11.heap.size + 1, 0, none⟩) 2 2, .int .i64 0, .int .i64 6, .slice (some ⟨w12.heap.size, 0, none⟩) 1 1, .int .i64 0, .slice (some ⟨w12.heap.size + 1, 0, none⟩) 1 1, .int .i64 0, .int .i64 6, .slice (some ⟨w13.heap.size, 0, none⟩) 2 2, .int .i64 14, .slice (some ⟨w13.heap.size + 1, 0, none⟩) 2 2, .int .i64 1, .int .i64 7, .slice (some ⟨w14.heap.size, 0, none⟩) 3 3, .int .i64 15, .slice (some ⟨w14.heap.size + 1, 0, none⟩) 2 2, .int .i64 0] rfl rfl rfl (by decide))
  have HL := hid (up_alloc w15 (.cells #[.int .i64 2, .slice (some ⟨w0.heap.size, 0, none⟩) 3 3, .int .i64 3, .slice (some ⟨w0.heap.size + 1, 0, none⟩) 2 2, .int .i64 0, .int .i64 2, .slice (some ⟨w1.heap.size, 0, none⟩) 5 5, .int .i64 3, .slice (some ⟨w1.heap.size + 1, 0, none⟩) 3 3, .int .i64 0, .int .i64 2, .slice (some ⟨w2.heap.size, 0, none⟩) 2 2, .int .i64 4, .slice (some ⟨w2.heap.size + 1, 0, none⟩) 2 2, .int .i64 1, .int .i64 2, .slice (some ⟨w3.heap.size, 0, none⟩) 4 4, .int .i64 4, .slice (some ⟨w3.heap.size + 1, 0, none⟩) 3 3, .int .i64 0, .int .i64 3, .slice (some ⟨w4.heap.size, 0, none⟩) 2 2, .int .i64 5, .slice (some ⟨w4.heap.size + 1, 0, none⟩) 2 2, .int .i64 0, .int .i64 4, .slice (some ⟨w5.heap.size, 0, none⟩) 1 1, .int .i64 8, .slice (some ⟨w5.heap.size + 1, 0, none⟩) 1 1, .int .i64 0, .int .i64 4, .slice (some ⟨w6.heap.size, 0, none⟩) 3 3, .int .i64 9, .slice (some ⟨w6.heap.size + 1, 0, none⟩) 2 2, .int .i64 0, .int .i64 4, .slice (some ⟨w7.heap.size, 0, none⟩) 3 3, .int .i64 10, .slice (some ⟨w7.heap.size + 1, 0, none⟩) 2 2, .int .i64 1, .int .i64 4, .slice (some ⟨w8.heap.size, 0, none⟩) 2 2, .int .i64 11, .slice (some ⟨w8.heap.size + 1, 0, none⟩) 1 1, .int .i64 1, .int .i64 5, .slice (some ⟨w9.heap.size, 0, none⟩) 2 2, .int .i64 12, .slice (some ⟨w9.heap.size + 1, 0, none⟩) 2 2, .int .i64 0, .int .i64 5, .slice (some ⟨w10.heap.size, 0, none⟩) 2 2, .int .i64 12, .slice (some ⟨w10.heap.size + 1, 0, none⟩) 2 2, .int .i64 0, .int .i64 9, .slice (some ⟨w11.heap.size, 0, none⟩) 2 2, .int .i64 13, .slice (some ⟨w11.heap.size + 1, 0, none⟩) 2 2, .int .i64 0, .int .i64 6, .slice (some ⟨w12.heap.size, 0, none⟩) 1 1, .int .i64 0, .slice (some ⟨w12.heap.size + 1, 0, none⟩) 1 1, .int .i64 0, .int .i64 6, .slice (some ⟨w13.heap.size, 0, none⟩) 2 2, .int .i64 14, .slice (some ⟨w13.heap.size + 1, 0, none⟩) 2 2, .int .i64 1, .int .i64 7, .slice (some ⟨w14.heap.size, 0, none⟩) 3 3, .int .i64 15, .slice (some ⟨w14.heap.size + 1, 0, none⟩) 2 2, .int .i64 0] 120))
  have HS : Hid (Stay (w15.alloc (.cells #[.int .i64 2, .slice (some ⟨w0.heap.size, 0, none⟩) 3 3, .int .i64 3, .slice (some ⟨w0.heap.size + 1, 0, none⟩) 2 2, .int .i64 0, .int .i64 2, .slice (some ⟨w1.heap.size, 0, none⟩) 5 5, .int .i64 3, .slice (some ⟨w1.heap.size + 1, 0, none⟩) 3 3, .int .i64 0, .int .i64 2, .slice (some ⟨w2.heap.size, 0, none⟩) 2 2, .int .i64 4, .slice (some ⟨w2.heap.size + 1, 0, none⟩) 2 2, .int .i64 1, .int .i64 2, .slice (some ⟨w3.heap.size, 0, none⟩) 4 4, .int .i64 4, .slice (some ⟨w3.heap.size + 1, 0, none⟩) 3 3, .int .i64 0, .int .i64 3, .slice (some ⟨w4.heap.size, 0, none⟩) 2 2, .int .i64 5, .slice (some ⟨w4.heap.size + 1, 0, none⟩) 2 2, .int .i64 0, .int .i64 4, .slice (some ⟨w5.heap.size, 0, none⟩) 1 1, .int .i64 8, .slice (some ⟨w5.heap.size + 1, 0, none⟩) 1 1, .int .i64 0, .int .i64 4, .slice (some ⟨w6.heap.size, 0, none⟩) 3 3, .int .i64 9, .slice (some ⟨w6.heap.size + 1, 0, none⟩) 2 2, .int .i64 0, .int .i64 4, .slice (some ⟨w7.heap.size, 0, none⟩) 3 3, .int .i64 10, .slice (some ⟨w7.heap.size + 1, 0, none⟩) 2 2, .int .i64 1, .int .i64 4, .slice (some ⟨w8.heap.size, 0, none⟩) 2 2, .int .i64 11, .slice (some ⟨w8.heap.size + 1, 0, none⟩) 1 1, .int .i64 1, .int .i64 5, .slice (some ⟨w9.heap.size, 0, none⟩) 2 2, .int .i64 12, .slice (some ⟨w9.heap.size + 1, 0, none⟩) 2 2, .int .i64 0, .int .i64 5, .slice (some ⟨w10.heap.size, 0, none⟩) 2 2, .int .i64 12, .slice (some ⟨w10.heap.size + 1, 0, none⟩) 2 2, .int .i64 0, .int .i64 9, .slice (some ⟨w11.heap.size, 0, none⟩) 2 2, .int .i64 13, .slice (some ⟨w11.heap.size + 1, 0, none⟩) 2 2, .int .i64 0, .int .i64 6, .slice (some ⟨w12.heap.size, 0, none⟩) 1 1, .int .i64 0, .slice (some ⟨w12.heap.size + 1, 0, none⟩) 1 1, .int .i64 0, .int .i64 6, .slice (some ⟨w13.heap.size, 0, none⟩) 2 2, .int .i64 14, .slice (some ⟨w13.heap.size + 1, 0, none⟩) 2 2, .int .i64 1, .int .i64 7, .slice (some ⟨w14.heap.size, 0, none⟩) 3 3, .int .i64 15, .slice (some ⟨w14.heap.size + 1, 0, none⟩) 2 2, .int .i64 0] 120)) (fun W => RuleC W [.int .i64 2, .slice (some ⟨w0.heap.size, 0, none⟩) 3 3, .int .i64 3, .slice (some ⟨w0.heap.size + 1, 0, none⟩) 2 2, .int .i64 0, .int .i64 2, .slice (some ⟨w1.heap.size, 0, none⟩) 5 5, .int .i64 3, .slice (some ⟨w1.heap.size + 1, 0, none⟩) 3 3, .int .i64 0, .int .i64 2, .slice (some ⟨w2.heap.size, 0, none⟩) 2 2, .int .i64 4, .slice (some ⟨w2.heap.size + 1, 0, none⟩) 2 2, .int .i64 1, .int .i64 2, .slice (some ⟨w3.heap.size, 0, none⟩) 4 4, .int .i64 4, .slice (some ⟨w3.heap.size + 1, 0, none⟩) 3 3, .int .i64 0, .int .i64 3, .slice (some ⟨w4.heap.size, 0, none⟩) 2 2, .int .i64 5, .slice (some ⟨w4.heap.size + 1, 0, none⟩) 2 2, .int .i64 0, .int .i64 4, .slice (some ⟨w5.heap.size, 0, none⟩) 1 1, .int .i64 8, .slice (some ⟨w5.heap.size + 1, 0, none⟩) 1 1, .int .i64 0, .int .i64 4, .slice (some ⟨w6.heap.size, 0, none⟩) 3 3, .int .i64 9, .slice (some ⟨w6.heap.size + 1, 0, none⟩) 2 2, .int .i64 0, .int .i64 4, .slice (some ⟨w7.heap.size, 0, none⟩) 3 3, .int .i64 10, .slice (some ⟨w7.heap.size + 1, 0, none⟩) 2 2, .int .i64 1, .int .i64 4, .slice (some ⟨w8.heap.size, 0, none⟩) 2 2, .int .i64 11, .slice (some ⟨w8.heap.size + 1, 0, none⟩) 1 1, .int .i64 1, .int .i64 5, .slice (some ⟨w9.heap.size, 0, none⟩) 2 2, .int .i64 12, .slice (some ⟨w9.heap.size + 1, 0, none⟩) 2 2, .int .i64 0, .int .i64 5, .slice (some ⟨w10.heap.size, 0, none⟩) 2 2, .int .i64 12, .slice (some ⟨w10.heap.size + 1, 0, none⟩) 2 2, .int .i64 0, .int .i64 9, .slice (some ⟨w11.heap.size, 0, none⟩) 2 2, .int .i64 13, .slice (some ⟨w11.heap.size + 1, 0, none⟩) 2 2, .int .i64 0, .int .i64 6, .slice (some ⟨w12.heap.size, 0, none⟩) 1 1, .int .i64 0, .slice (some ⟨w12.heap.size + 1, 0, none⟩) 1 1, .int .i64 0, .int .i64 6, .slice (some ⟨w13.heap.size, 0, none⟩) 2 2, .int .i64 14, .slice (some ⟨w13.heap.size + 1, 0, none⟩) 2 2, .int .i64 1, .int .i64 7, .slice (some ⟨w14.heap.size, 0, none⟩) 3 3, .int .i64 15, .slice (some ⟨w14.heap.size + 1, 0, none⟩) 2 2, .int .i64 0] othersA)) := hid (fun W kk => (RuleC.one W ⟨2, [(-1), (-55), (-1)], 3, [0, 2], 0⟩ (.slice (some ⟨w0.heap.size, 0, none⟩) 3 3) (.slice (some ⟨w0.heap.size + 1, 0, none⟩) 2 2) (HQ0.out.1 W ((Keep.up HE1.out).trans ((Keep.up HL.out).trans kk))) (HQ0.out.2 W ((Keep.up HE1.out).trans ((Keep.up HL.out).trans kk))) rfl rfl).append ((RuleC.one W ⟨2, [(-1), (-55), (-1), (-55), (-1)], 3, [0, 2, 4], 0⟩ (.slice (some ⟨w1.heap.size, 0, none⟩) 5 5) (.slice (some ⟨w1.heap.size + 1, 0, none⟩) 3 3) (HQ1.out.1 W ((Keep.up HE2.out).trans ((Keep.up HL.out).trans kk))) (HQ1.out.2 W ((Keep.up HE2.out).trans ((Keep.up HL.out).trans kk))) rfl rfl).append ((RuleC.one W ⟨2, [(-1), (-6)], 4, [0, 1], 1⟩ (.slice (some ⟨w2.heap.size, 0, none⟩) 2 2) (.slice (some ⟨w2.heap.size + 1, 0, none⟩) 2 2) (HQ2.out.1 W ((Keep.up HE3.out).trans ((Keep.up HL.out).trans kk))) (HQ2.out.2 W ((Keep.up HE3.out).trans ((Keep.up HL.out).trans kk))) rfl rfl).append ((RuleC.one W ⟨2, [(-1), (-55), (-1), (-6)], 4, [0, 2, 3], 0⟩ (.slice (some ⟨w3.heap.size, 0, none⟩) 4 4) (.slice (some ⟨w3.heap.size + 1, 0, none⟩) 3 3) (HQ3.out.1 W ((Keep.up HE4.out).trans ((Keep.up HL.out).trans kk))) (HQ3.out.2 W ((Keep.up HE4.out).trans ((Keep.up HL.out).trans kk))) rfl rfl).append ((RuleC.one W ⟨3, [1, 2], 5, [0, 1], 0⟩ (.slice (some ⟨w4.heap.size, 0, none⟩) 2 2) (.slice (some ⟨w4.heap.size + 1, 0, none⟩) 2 2) (HQ4.out.1 W ((Keep.up HE5.out).trans ((Keep.up HL.out).trans kk))) (HQ4.out.2 W ((Keep.up HE5.out).trans ((Keep.up HL.out).trans kk))) rfl rfl).append ((RuleC.one W ⟨4, [(-1)], 8, [0], 0⟩ (.slice (some ⟨w5.heap.size, 0, none⟩) 1 1) (.slice (some ⟨w5.heap.size + 1, 0, none⟩) 1 1) (HQ5.out.1 W ((Keep.up HE6.out).trans ((Keep.up HL.out).trans kk))) (HQ5.out.2 W ((Keep.up HE6.out).trans ((Keep.up HL.out).trans kk))) rfl rfl).append ((RuleC.one W ⟨4, [(-1), (-53), (-1)], 9, [0, 2], 0⟩ (.slice (some ⟨w6.heap.size, 0, none⟩) 3 3) (.slice (some ⟨w6.heap.size + 1, 0, none⟩) 2 2) (HQ6.out.1 W ((Keep.up HE7.out).trans ((Keep.up HL.out).trans kk))) (HQ6.out.2 W ((Keep.up HE7.out).trans ((Keep.up HL.out).trans kk))) rfl rfl).append ((RuleC.one W ⟨4, [(-1), (-54), (-1)], 10, [0, 2], 1⟩ (.slice (some ⟨w7.heap.size, 0, none⟩) 3 3) (.slice (some ⟨w7.heap.size + 1, 0, none⟩) 2 2) (HQ7.out.1 W ((Keep.up HE8.out).trans ((Keep.up HL.out).trans kk))) (HQ7.out.2 W ((Keep.up HE8.out).trans ((Keep.up HL.out).trans kk))) rfl rfl).append ((RuleC.one W ⟨4, [(-52), 4], 11, [1], 1⟩ (.slice (some ⟨w8.heap.size, 0, none⟩) 2 2) (.slice (some ⟨w8.heap.size + 1, 0, none⟩) 1 1) (HQ8.out.1 W ((Keep.up HE9.out).trans ((Keep.up HL.out).trans kk))) (HQ8.out.2 W ((Keep.up HE9.out).trans ((Keep.up HL.out).trans kk))) rfl rfl).append ((RuleC.one W ⟨5, [(-7), 4], 12, [0, 1], 0⟩ (.slice (some ⟨w9.heap.size, 0, none⟩) 2 2) (.slice (some ⟨w9.heap.size + 1, 0, none⟩) 2 2) (HQ9.out.1 W ((Keep.up HE10.out).trans ((Keep.up HL.out).trans kk))) (HQ9.out.2 W ((Keep.up HE10.out).trans ((Keep.up HL.out).trans kk))) rfl rfl).append ((RuleC.one W ⟨5, [4, (-7)], 12, [1, 0], 0⟩ (.slice (some ⟨w10.heap.size, 0, none⟩) 2 2) (.slice (some ⟨w10.heap.size + 1, 0, none⟩) 2 2) (HQ10.out.1 W ((Keep.up HE11.out).trans ((Keep.up HL.out).trans kk))) (HQ10.out.2 W ((Keep.up HE11.out).trans ((Keep.up HL.out).trans kk))) rfl rfl).append ((RuleC.one W ⟨9, [(-1), (-8)], 13, [0, 1], 0⟩ (.slice (some ⟨w11.heap.size, 0, none⟩) 2 2) (.slice (some ⟨w11.heap.size + 1, 0, none⟩) 2 2) (HQ11.out.1 W ((Keep.up HE12.out).trans ((Keep.up HL.out).trans kk))) (HQ11.out.2 W ((Keep.up HE12.out).trans ((Keep.up HL.out).trans kk))) rfl rfl).append ((RuleC.one W ⟨6, [9], 0, [0], 0⟩ (.slice (some ⟨w12.heap.size, 0, none⟩) 1 1) (.slice (some ⟨w12.heap.size + 1, 0, none⟩) 1 1) (HQ12.out.1 W ((Keep.up HE13.out).trans ((Keep.up HL.out).trans kk))) (HQ12.out.2 W ((Keep.up HE13.out).trans ((Keep.up HL.out).trans kk))) rfl rfl).append ((RuleC.one W ⟨6, [6, 9], 14, [0, 1], 1⟩ (.slice (some ⟨w13.heap.size, 0, none⟩) 2 2) (.slice (some ⟨w13.heap.size + 1, 0, none⟩) 2 2) (HQ13.out.1 W ((Keep.up HE14.out).trans ((Keep.up HL.out).trans kk))) (HQ13.out.2 W ((Keep.up HE14.out).trans ((Keep.up HL.out).trans kk))) rfl rfl).append ((RuleC.one W ⟨7, [1, (-9), 1], 15, [0, 2], 0⟩ (.slice (some ⟨w14.heap.size, 0, none⟩) 3 3) (.slice (some ⟨w14.heap.size + 1, 0, none⟩) 2 2) (HQ14.out.1 W ((Keep.up HE15.out).trans ((Keep.up HL.out).trans kk))) (HQ14.out.2 W ((Keep.up HE15.out).trans ((Keep.up HL.out).trans kk))) rfl rfl).append (RuleC.nil _))))))))))))))))
  have HB : Hid (Below w0.heap.size w0 (w15.alloc (.cells #[.int .i64 2, .slice (some ⟨w0.heap.size, 0, none⟩) 3 3, .int .i64 3, .slice (some ⟨w0.heap.size + 1, 0, none⟩) 2 2, .int .i64 0, .int .i64 2, .slice (some ⟨w1.heap.size, 0, none⟩) 5 5, .int .i64 3, .slice (some ⟨w1.heap.size + 1, 0, none⟩) 3 3, .int .i64 0, .int .i64 2, .slice (some ⟨w2.heap.size, 0, none⟩) 2 2, .int .i64 4, .slice (some ⟨w2.heap.size + 1, 0, none⟩) 2 2, .int .i64 1, .int .i64 2, .slice (some ⟨w3.heap.size, 0, none⟩) 4 4, .int .i64 4, .slice (some ⟨w3.heap.size + 1, 0, none⟩) 3 3, .int .i64 0, .int .i64 3, .slice (some ⟨w4.heap.size, 0, none⟩) 2 2, .int .i64 5, .slice (some ⟨w4.heap.size + 1, 0, none⟩) 2 2, .int .i64 0, .int .i64 4, .slice (some ⟨w5.heap.size, 0, none⟩) 1 1, .int .i64 8, .slice (some ⟨w5.heap.size + 1, 0, none⟩) 1 1, .int .i64 0, .int .i64 4, .slice (some ⟨w6.heap.size, 0, none⟩) 3 3, .int .i64 9, .slice (some ⟨w6.heap.size + 1, 0, none⟩) 2 2, .int .i64 0, .int .i64 4, .slice (some ⟨w7.heap.size, 0, none⟩) 3 3, .int .i64 10, .slice (some ⟨w7.heap.size + 1, 0, none⟩) 2 2, .int .i64 1, .int .i64 4, .slice (some ⟨w8.heap.size, 0, none⟩) 2 2, .int .i64 11, .slice (some ⟨w8.heap.size + 1, 0, none⟩) 1 1, .int .i64 1, .int .i64 5, .slice (some ⟨w9.heap.size, 0, none⟩) 2 2, .int .i64 12, .slice (some ⟨w9.heap.size + 1, 0, none⟩) 2 2, .int .i64 0, .int .i64 5, .slice (some ⟨w10.heap.size, 0, none⟩) 2 2, .int .i64 12, .slice (some ⟨w10.heap.size + 1, 0, none⟩) 2 2, .int .i64 0, .int .i64 9, .slice (some ⟨w11.heap.size, 0, none⟩) 2 2, .int .i64 13, .slice (some ⟨w11.heap.size + 1, 0, none⟩) 2 2, .int .i64 0, .int .i64 6, .slice (some ⟨w12.heap.size, 0, none⟩) 1 1, .int .i64 0, .slice (some ⟨w12.heap.size + 1, 0, none⟩) 1 1, .int .i64 0, .int .i64 6, .slice (some ⟨w13.heap.size, 0, none⟩) 2 2, .int .i64 14, .slice (some ⟨w13.heap.size + 1, 0, none⟩) 2 2, .int .i64 1, .int .i64 7, .slice (some ⟨w14.heap.size, 0, none⟩) 3 3, .int .i64 15, .slice (some ⟨w14.heap.size + 1, 0, none⟩) 2 2, .int .i64 0] 120))) := hid (up_trans HE0.out HL.out)
  go_wp2
  obtain ⟨wz, hwz⟩ : ∃ wz, wz = w15.alloc (.cells #[.int .i64 2, .slice (some ⟨w0.heap.size, 0, none⟩) 3 3, .int .i64 3, .slice (some ⟨w0.heap.size + 1, 0, none⟩) 2 2, .int .i64 0, .int .i64 2, .slice (some ⟨w1.heap.size, 0, none⟩) 5 5, .int .i64 3, .slice (some ⟨w1.heap.size + 1, 0, none⟩) 3 3, .int .i64 0, .int .i64 2, .slice (some ⟨w2.heap.size, 0, none⟩) 2 2, .int .i64 4, .slice (some ⟨w2.heap.size + 1, 0, none⟩) 2 2, .int .i64 1, .int .i64 2, .slice (some ⟨w3.heap.size, 0, none⟩) 4 4, .int .i64 4, .slice (some ⟨w3.heap.size + 1, 0, none⟩) 3 3, .int .i64 0, .int .i64 3, .slice (some ⟨w4.heap.size, 0, none⟩) 2 2, .int .i64 5, .slice (some ⟨w4.heap.size + 1, 0, none⟩) 2 2, .int .i64 0, .int .i64 4, .slice (some ⟨w5.heap.size, 0, none⟩) 1 1, .int .i64 8, .slice (some ⟨w5.heap.size + 1, 0, none⟩) 1 1, .int .i64 0, .int .i64 4, .slice (some ⟨w6.heap.size, 0, none⟩) 3 3, .int .i64 9, .slice (some ⟨w6.heap.size + 1, 0, none⟩) 2 2, .int .i64 0, .int .i64 4, .slice (some ⟨w7.heap.size, 0, none⟩) 3 3, .int .i64 10, .slice (some ⟨w7.heap.size + 1, 0, none⟩) 2 2, .int .i64 1, .int .i64 4, .slice (some ⟨w8.heap.size, 0, none⟩) 2 2, .int .i64 11, .slice (some ⟨w8.heap.size + 1, 0, none⟩) 1 1, .int .i64 1, .int .i64 5, .slice (some ⟨w9.heap.size, 0, none⟩) 2 2, .int .i64 12, .slice (some ⟨w9.heap.size + 1, 0, none⟩) 2 2, .int .i64 0, .int .i64 5, .slice (some ⟨w10.heap.size, 0, none⟩) 2 2, .int .i64 12, .slice (some ⟨w10.heap.size + 1, 0, none⟩) 2 2, .int .i64 0, .int .i64 9, .slice (some ⟨w11.heap.size, 0, none⟩) 2 2, .int .i64 13, .slice (some ⟨w11.heap.size + 1, 0, none⟩) 2 2, .int .i64 0, .int .i64 6, .slice (some ⟨w12.heap.size, 0, none⟩) 1 1, .int .i64 0, .slice (some ⟨w12.heap.size + 1, 0, none⟩) 1 1, .int .i64 0, .int .i64 6, .slice (some ⟨w13.heap.size, 0, none⟩) 2 2, .int .i64 14, .slice (some ⟨w13.heap.size + 1, 0, none⟩) 2 2, .int .i64 1, .int .i64 7, .slice (some ⟨w14.heap.size, 0, none⟩) 3 3, .int .i64 15, .slice (some ⟨w14.heap.size + 1, 0, none⟩) 2 2, .int .i64 0] 120) := ⟨_, rfl⟩
  obtain ⟨gz, hgz⟩ : ∃ gz, gz = w15.heap.size := ⟨_, rfl⟩
  rw [← hwz] at HO HS HB
  rw [← hgz] at HO
  have hzz : w0.heap.size ≤ gz := by rw [hgz]; exact HE0.out.size
  have hzs : gz ≤ wz.heap.size := by rw [hgz, hwz]; simp
  rw [← hwz, ← hgz]
  generalize ([.int .i64 2, .slice (some ⟨w0.heap.size, 0, none⟩) 3 3, .int .i64 3, .slice (some ⟨w0.heap.size + 1, 0, none⟩) 2 2, .int .i64 0, .int .i64 2, .slice (some ⟨w1.heap.size, 0, none⟩) 5 5, .int .i64 3, .slice (some ⟨w1.heap.size + 1, 0, none⟩) 3 3, .int .i64 0, .int .i64 2, .slice (some ⟨w2.heap.size, 0, none⟩) 2 2, .int .i64 4, .slice (some ⟨w2.heap.size + 1, 0, none⟩) 2 2, .int .i64 1, .int .i64 2, .slice (some ⟨w3.heap.size, 0, none⟩) 4 4, .int .i64 4, .slice (some ⟨w3.heap.size + 1, 0, none⟩) 3 3, .int .i64 0, .int .i64 3, .slice (some ⟨w4.heap.size, 0, none⟩) 2 2, .int .i64 5, .slice (some ⟨w4.heap.size + 1, 0, none⟩) 2 2, .int .i64 0, .int .i64 4, .slice (some ⟨w5.heap.size, 0, none⟩) 1 1, .int .i64 8, .slice (some ⟨w5.heap.size + 1, 0, none⟩) 1 1, .int .i64 0, .int .i64 4, .slice (some ⟨w6.heap.size, 0, none⟩) 3 3, .int .i64 9, .slice (some ⟨w6.heap.size + 1, 0, none⟩) 2 2, .int .i64 0, .int .i64 4, .slice (some ⟨w7.heap.size, 0, none⟩) 3 3, .int .i64 10, .slice (some ⟨w7.heap.size + 1, 0, none⟩) 2 2, .int .i64 1, .int .i64 4, .slice (some ⟨w8.heap.size, 0, none⟩) 2 2, .int .i64 11, .slice (some ⟨w8.heap.size + 1, 0, none⟩) 1 1, .int .i64 1, .int .i64 5, .slice (some ⟨w9.heap.size, 0, none⟩) 2 2, .int .i64 12, .slice (some ⟨w9.heap.size + 1, 0, none⟩) 2 2, .int .i64 0, .int .i64 5, .slice (some ⟨w10.heap.size, 0, none⟩) 2 2, .int .i64 12, .slice (some ⟨w10.heap.size + 1, 0, none⟩) 2 2, .int .i64 0, .int .i64 9, .slice (some ⟨w11.heap.size, 0, none⟩) 2 2, .int .i64 13, .slice (some ⟨w11.heap.size + 1, 0, none⟩) 2 2, .int .i64 0, .int .i64 6, .slice (some ⟨w12.heap.size, 0, none⟩) 1 1, .int .i64 0, .slice (some ⟨w12.heap.size + 1, 0, none⟩) 1 1, .int .i64 0, .int .i64 6, .slice (some ⟨w13.heap.size, 0, none⟩) 2 2, .int .i64 14, .slice (some ⟨w13.heap.size + 1, 0, none⟩) 2 2, .int .i64 1, .int .i64 7, .slice (some ⟨w14.heap.size, 0, none⟩) 3 3, .int .i64 15, .slice (some ⟨w14.heap.size + 1, 0, none⟩) 2 2, .int .i64 0] : List Value) = cz at HO HS
  clear hwz hgz HL HQ0 HD0 HE0 HQ1 HD1 HE1 HQ2 HD2 HE2 HQ3 HD3 HE3 HQ4 HD4 HE4 HQ5 HD5 HE5 HQ6 HD6 HE6 HQ7 HD7 HE7 HQ8 HD8 HE8 HQ9 HD9 HE9 HQ10 HD10 HE10 HQ11 HD11 HE11 HQ12 HD12 HE12 HQ13 HD13 HE13 HQ14 HD14 HE14 HE15
  go_loopw [1, 2] (fun v1 v2 wr => ∃ m : Nat, m ≤ 7 ∧ v2 = .int .i64 ((m : Int) + 1) ∧ (∃ cs, wr.ownsRow gz 120 5 v1 (15 + m) cs ∧ Stay wr (fun W => RuleC W cs (othersM m))) ∧ Below w0.heap.size w0 wr ∧ gz ≤ wr.heap.size) (fun _ v2 _ => 8 - (intOf v2).toNat)
  case atStart => exact ⟨0, by omega, rfl, ⟨_, HO.out, fun W kk => by have := HS.out W kk; simpa [othersM] using this⟩, HB.out, hzs⟩
  case round =>
    obtain ⟨m, hm, rfl, ⟨cs, ho, hc⟩, hb, hz⟩ := hrel
    by_cases hlt : m < 7
    · have hlt2 : (m : Int) < 7 := by omega
      have hlt3 : (m : Int) + 1 < 8 := by omega
      have HO1 := hid ho
      have HC1 := hid hc
      have HB1 := hid hb
      obtain ⟨ad1, cap1, e1, _⟩ := own_shape ho
      subst e1
      clear ho hc hb
      have HCL := hid (lrule_lit 0 0 (((m : Int) + 1).tmod 3) [(m : Int) + 1] [0] #[.int .i64 ((m : Int) + 1)] #[.int .i64 0] rfl rfl 1 1 rfl rfl (by decide) wr _ _ rfl rfl)
      go_wp2_with fail
      refine HCL.out.mono ?_
      rintro e wA ⟨rfl, q, b⟩
      have HQ := hid q
      have HU := hid (up_trans b (up_alloc wA (.cells #[.int .i64 0, .slice (some ⟨wr.heap.size, 0, none⟩) 1 1, .int .i64 0, .slice (some ⟨wr.heap.size + 1, 0, none⟩) 1 1, .int .i64 (((m : Int) + 1).tmod 3)] 120)))
      have HOA := hid (owns_below HO1.out HU.out)
      have HLIT := hid (cells_lit wA 120 [.int .i64 0, .slice (some ⟨wr.heap.size, 0, none⟩) 1 1, .int .i64 0, .slice (some ⟨wr.heap.size + 1, 0, none⟩) 1 1, .int .i64 (((m : Int) + 1).tmod 3)] #[.int .i64 0, .slice (some ⟨wr.heap.size, 0, none⟩) 1 1, .int .i64 0, .slice (some ⟨wr.heap.size + 1, 0, none⟩) 1 1, .int .i64 (((m : Int) + 1).tmod 3)] rfl _ 1 5 rfl rfl (by intro u hu; simp at hu; rcases hu with rfl | rfl | rfl | rfl | rfl <;> rfl))
      have hsA : gz ≤ (wA.alloc (.cells #[.int .i64 0, .slice (some ⟨wr.heap.size, 0, none⟩) 1 1, .int .i64 0, .slice (some ⟨wr.heap.size + 1, 0, none⟩) 1 1, .int .i64 (((m : Int) + 1).tmod 3)] 120)).heap.size := Nat.le_trans hz HU.out.size
      clear q b HCL
      go_wp2_with (at_builtin; refine wpList_append_cells _ rfl (.tmp 53) (.tmp 60) 30 120 rfl (.agg #[.int .i64 0, .slice none 0 0, .int .i64 0, .slice none 0 0, .int .i64 0]) 5 72 Tryz.underlying30 info_Rule rfl (by decide) (by decide) gz _ (15 + m) _ rfl HOA.out _ 1 _ rfl HLIT.out (by omega) hsA ?_; intro v' wB h1 h2 h3; have HN1 := hid h1; have HN2 : Hid (Stay wB (fun W => RuleC W (cs ++ [.int .i64 0, .slice (some ⟨wr.heap.size, 0, none⟩) 1 1, .int .i64 0, .slice (some ⟨wr.heap.size + 1, 0, none⟩) 1 1, .int .i64 (((m : Int) + 1).tmod 3)]) (othersM (m + 1)))) := hid (fun W kk => by rw [othersM_succ]; exact (HC1.out W ((Keep.up HU.out).trans ((Keep.grown HOA.out h2 (by decide) (by decide)).trans kk))).append (RuleC.one W (pickR (m + 1)) _ _ (HQ.out.1 W ((Keep.up (up_alloc wA _)).trans ((Keep.grown HOA.out h2 (by decide) (by decide)).trans kk))) (HQ.out.2 W ((Keep.up (up_alloc wA _)).trans ((Keep.grown HOA.out h2 (by decide) (by decide)).trans kk))) rfl rfl)); have HN3 := hid ((up_trans HB1.out HU.out).grown h2 (Nat.le_trans hzz hsA) (fun q e => Nat.le_trans hzz (World.ownsRow.lt HOA.out q e).1)); have hN4 : gz ≤ wB.heap.size := Nat.le_trans hsA h2.size; obtain ⟨adv, capv, ev, _⟩ := own_shape h1; subst ev; clear h1 h2 h3)
      go_roundw
      case rel => exact ⟨m + 1, by omega, by simp, ⟨_, HN1.out, HN2.out⟩, HN3.out, hN4⟩
      case measure => simp [intOf]; omega
    · obtain rfl : m = 7 := by omega
      have HO1 := hid ho
      have HC1 := hid hc
      have HB1 := hid hb
      obtain ⟨ad1, cap1, e1, _⟩ := own_shape ho
      subst e1
      clear ho hc hb
      go_wp2
      go_ret
      exact ⟨_, rfl, fun W k => rules_own (by rw [othersM_length]; exact own_keepL HO1.out (by decide) k) (HC1.out W k.keep) (by rw [othersM_length]; decide), HB1.out⟩

end Go.Proofs.YtannndpamhgknaaGreatDoor.Bl
