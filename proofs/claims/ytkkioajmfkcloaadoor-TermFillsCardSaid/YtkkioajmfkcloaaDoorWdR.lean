/- The reference's Wide: any number (walked where every comparison is decided). -/
import Derived.Test.YtkkioajmfkcloaaDoorProg
import Derived.Test.YtkkioajmfkcloaaDoorMWp
import Derived.BigGuardPart
set_option linter.unusedVariables false
namespace Go.Proofs.YtkkioajmfkcloaaDoor
open Go.RowKit L Wd
set_option maxRecDepth 100000 in
set_option maxHeartbeats 1000000 in
theorem rwide_0 (r : Int) (w : World) (h2 : r ≤ 4351) : Calls Tryd.prog 64 #[.int .i32 r] w fun e w' => e = .returned (.bool false) ∧ w = w' := by
  have a4352 : decide (4352 ≤ r) = false := by simp; omega
  have b4447 : decide (r ≤ 4447) = true := by simp; omega
  have a11904 : decide (11904 ≤ r) = false := by simp; omega
  have b12350 : decide (r ≤ 12350) = true := by simp; omega
  have a12353 : decide (12353 ≤ r) = false := by simp; omega
  have b42191 : decide (r ≤ 42191) = true := by simp; omega
  have a44032 : decide (44032 ≤ r) = false := by simp; omega
  have b55203 : decide (r ≤ 55203) = true := by simp; omega
  have a63744 : decide (63744 ≤ r) = false := by simp; omega
  have b64255 : decide (r ≤ 64255) = true := by simp; omega
  have a65072 : decide (65072 ≤ r) = false := by simp; omega
  have b65135 : decide (r ≤ 65135) = true := by simp; omega
  have a65281 : decide (65281 ≤ r) = false := by simp; omega
  have b65376 : decide (r ≤ 65376) = true := by simp; omega
  have a65504 : decide (65504 ≤ r) = false := by simp; omega
  have b65510 : decide (r ≤ 65510) = true := by simp; omega
  have a127744 : decide (127744 ≤ r) = false := by simp; omega
  have b128591 : decide (r ≤ 128591) = true := by simp; omega
  have a129280 : decide (129280 ≤ r) = false := by simp; omega
  have b129535 : decide (r ≤ 129535) = true := by simp; omega
  have a131072 : decide (131072 ≤ r) = false := by simp; omega
  have b262141 : decide (r ≤ 262141) = true := by simp; omega
  clear h2
  go_enter Tryd.func64, Tryd.ntmps64
  simp only [List.append]
  go_wp2
  all_goals go_ret
  all_goals exact ⟨rfl, rfl⟩
set_option maxRecDepth 100000 in
set_option maxHeartbeats 1000000 in
theorem rwide_1 (r : Int) (w : World) (h : 4352 ≤ r) (h2 : r ≤ 4447) : Calls Tryd.prog 64 #[.int .i32 r] w fun e w' => e = .returned (.bool true) ∧ w = w' := by
  have a4352 : decide (4352 ≤ r) = true := by simp; omega
  have b4447 : decide (r ≤ 4447) = true := by simp; omega
  have a11904 : decide (11904 ≤ r) = false := by simp; omega
  have b12350 : decide (r ≤ 12350) = true := by simp; omega
  have a12353 : decide (12353 ≤ r) = false := by simp; omega
  have b42191 : decide (r ≤ 42191) = true := by simp; omega
  have a44032 : decide (44032 ≤ r) = false := by simp; omega
  have b55203 : decide (r ≤ 55203) = true := by simp; omega
  have a63744 : decide (63744 ≤ r) = false := by simp; omega
  have b64255 : decide (r ≤ 64255) = true := by simp; omega
  have a65072 : decide (65072 ≤ r) = false := by simp; omega
  have b65135 : decide (r ≤ 65135) = true := by simp; omega
  have a65281 : decide (65281 ≤ r) = false := by simp; omega
  have b65376 : decide (r ≤ 65376) = true := by simp; omega
  have a65504 : decide (65504 ≤ r) = false := by simp; omega
  have b65510 : decide (r ≤ 65510) = true := by simp; omega
  have a127744 : decide (127744 ≤ r) = false := by simp; omega
  have b128591 : decide (r ≤ 128591) = true := by simp; omega
  have a129280 : decide (129280 ≤ r) = false := by simp; omega
  have b129535 : decide (r ≤ 129535) = true := by simp; omega
  have a131072 : decide (131072 ≤ r) = false := by simp; omega
  have b262141 : decide (r ≤ 262141) = true := by simp; omega
  clear h h2
  go_enter Tryd.func64, Tryd.ntmps64
  simp only [List.append]
  go_wp2
  all_goals go_ret
  all_goals exact ⟨rfl, rfl⟩
set_option maxRecDepth 100000 in
set_option maxHeartbeats 1000000 in
theorem rwide_2 (r : Int) (w : World) (h : 4448 ≤ r) (h2 : r ≤ 11903) : Calls Tryd.prog 64 #[.int .i32 r] w fun e w' => e = .returned (.bool false) ∧ w = w' := by
  have a4352 : decide (4352 ≤ r) = true := by simp; omega
  have b4447 : decide (r ≤ 4447) = false := by simp; omega
  have a11904 : decide (11904 ≤ r) = false := by simp; omega
  have b12350 : decide (r ≤ 12350) = true := by simp; omega
  have a12353 : decide (12353 ≤ r) = false := by simp; omega
  have b42191 : decide (r ≤ 42191) = true := by simp; omega
  have a44032 : decide (44032 ≤ r) = false := by simp; omega
  have b55203 : decide (r ≤ 55203) = true := by simp; omega
  have a63744 : decide (63744 ≤ r) = false := by simp; omega
  have b64255 : decide (r ≤ 64255) = true := by simp; omega
  have a65072 : decide (65072 ≤ r) = false := by simp; omega
  have b65135 : decide (r ≤ 65135) = true := by simp; omega
  have a65281 : decide (65281 ≤ r) = false := by simp; omega
  have b65376 : decide (r ≤ 65376) = true := by simp; omega
  have a65504 : decide (65504 ≤ r) = false := by simp; omega
  have b65510 : decide (r ≤ 65510) = true := by simp; omega
  have a127744 : decide (127744 ≤ r) = false := by simp; omega
  have b128591 : decide (r ≤ 128591) = true := by simp; omega
  have a129280 : decide (129280 ≤ r) = false := by simp; omega
  have b129535 : decide (r ≤ 129535) = true := by simp; omega
  have a131072 : decide (131072 ≤ r) = false := by simp; omega
  have b262141 : decide (r ≤ 262141) = true := by simp; omega
  clear h h2
  go_enter Tryd.func64, Tryd.ntmps64
  simp only [List.append]
  go_wp2
  all_goals go_ret
  all_goals exact ⟨rfl, rfl⟩
set_option maxRecDepth 100000 in
set_option maxHeartbeats 1000000 in
theorem rwide_3 (r : Int) (w : World) (h : 11904 ≤ r) (h2 : r ≤ 12350) : Calls Tryd.prog 64 #[.int .i32 r] w fun e w' => e = .returned (.bool true) ∧ w = w' := by
  have a4352 : decide (4352 ≤ r) = true := by simp; omega
  have b4447 : decide (r ≤ 4447) = false := by simp; omega
  have a11904 : decide (11904 ≤ r) = true := by simp; omega
  have b12350 : decide (r ≤ 12350) = true := by simp; omega
  have a12353 : decide (12353 ≤ r) = false := by simp; omega
  have b42191 : decide (r ≤ 42191) = true := by simp; omega
  have a44032 : decide (44032 ≤ r) = false := by simp; omega
  have b55203 : decide (r ≤ 55203) = true := by simp; omega
  have a63744 : decide (63744 ≤ r) = false := by simp; omega
  have b64255 : decide (r ≤ 64255) = true := by simp; omega
  have a65072 : decide (65072 ≤ r) = false := by simp; omega
  have b65135 : decide (r ≤ 65135) = true := by simp; omega
  have a65281 : decide (65281 ≤ r) = false := by simp; omega
  have b65376 : decide (r ≤ 65376) = true := by simp; omega
  have a65504 : decide (65504 ≤ r) = false := by simp; omega
  have b65510 : decide (r ≤ 65510) = true := by simp; omega
  have a127744 : decide (127744 ≤ r) = false := by simp; omega
  have b128591 : decide (r ≤ 128591) = true := by simp; omega
  have a129280 : decide (129280 ≤ r) = false := by simp; omega
  have b129535 : decide (r ≤ 129535) = true := by simp; omega
  have a131072 : decide (131072 ≤ r) = false := by simp; omega
  have b262141 : decide (r ≤ 262141) = true := by simp; omega
  clear h h2
  go_enter Tryd.func64, Tryd.ntmps64
  simp only [List.append]
  go_wp2
  all_goals go_ret
  all_goals exact ⟨rfl, rfl⟩
set_option maxRecDepth 100000 in
set_option maxHeartbeats 1000000 in
theorem rwide_4 (r : Int) (w : World) (h : 12351 ≤ r) (h2 : r ≤ 12352) : Calls Tryd.prog 64 #[.int .i32 r] w fun e w' => e = .returned (.bool false) ∧ w = w' := by
  have a4352 : decide (4352 ≤ r) = true := by simp; omega
  have b4447 : decide (r ≤ 4447) = false := by simp; omega
  have a11904 : decide (11904 ≤ r) = true := by simp; omega
  have b12350 : decide (r ≤ 12350) = false := by simp; omega
  have a12353 : decide (12353 ≤ r) = false := by simp; omega
  have b42191 : decide (r ≤ 42191) = true := by simp; omega
  have a44032 : decide (44032 ≤ r) = false := by simp; omega
  have b55203 : decide (r ≤ 55203) = true := by simp; omega
  have a63744 : decide (63744 ≤ r) = false := by simp; omega
  have b64255 : decide (r ≤ 64255) = true := by simp; omega
  have a65072 : decide (65072 ≤ r) = false := by simp; omega
  have b65135 : decide (r ≤ 65135) = true := by simp; omega
  have a65281 : decide (65281 ≤ r) = false := by simp; omega
  have b65376 : decide (r ≤ 65376) = true := by simp; omega
  have a65504 : decide (65504 ≤ r) = false := by simp; omega
  have b65510 : decide (r ≤ 65510) = true := by simp; omega
  have a127744 : decide (127744 ≤ r) = false := by simp; omega
  have b128591 : decide (r ≤ 128591) = true := by simp; omega
  have a129280 : decide (129280 ≤ r) = false := by simp; omega
  have b129535 : decide (r ≤ 129535) = true := by simp; omega
  have a131072 : decide (131072 ≤ r) = false := by simp; omega
  have b262141 : decide (r ≤ 262141) = true := by simp; omega
  clear h h2
  go_enter Tryd.func64, Tryd.ntmps64
  simp only [List.append]
  go_wp2
  all_goals go_ret
  all_goals exact ⟨rfl, rfl⟩
set_option maxRecDepth 100000 in
set_option maxHeartbeats 1000000 in
theorem rwide_5 (r : Int) (w : World) (h : 12353 ≤ r) (h2 : r ≤ 42191) : Calls Tryd.prog 64 #[.int .i32 r] w fun e w' => e = .returned (.bool true) ∧ w = w' := by
  have a4352 : decide (4352 ≤ r) = true := by simp; omega
  have b4447 : decide (r ≤ 4447) = false := by simp; omega
  have a11904 : decide (11904 ≤ r) = true := by simp; omega
  have b12350 : decide (r ≤ 12350) = false := by simp; omega
  have a12353 : decide (12353 ≤ r) = true := by simp; omega
  have b42191 : decide (r ≤ 42191) = true := by simp; omega
  have a44032 : decide (44032 ≤ r) = false := by simp; omega
  have b55203 : decide (r ≤ 55203) = true := by simp; omega
  have a63744 : decide (63744 ≤ r) = false := by simp; omega
  have b64255 : decide (r ≤ 64255) = true := by simp; omega
  have a65072 : decide (65072 ≤ r) = false := by simp; omega
  have b65135 : decide (r ≤ 65135) = true := by simp; omega
  have a65281 : decide (65281 ≤ r) = false := by simp; omega
  have b65376 : decide (r ≤ 65376) = true := by simp; omega
  have a65504 : decide (65504 ≤ r) = false := by simp; omega
  have b65510 : decide (r ≤ 65510) = true := by simp; omega
  have a127744 : decide (127744 ≤ r) = false := by simp; omega
  have b128591 : decide (r ≤ 128591) = true := by simp; omega
  have a129280 : decide (129280 ≤ r) = false := by simp; omega
  have b129535 : decide (r ≤ 129535) = true := by simp; omega
  have a131072 : decide (131072 ≤ r) = false := by simp; omega
  have b262141 : decide (r ≤ 262141) = true := by simp; omega
  clear h h2
  go_enter Tryd.func64, Tryd.ntmps64
  simp only [List.append]
  go_wp2
  all_goals go_ret
  all_goals exact ⟨rfl, rfl⟩
set_option maxRecDepth 100000 in
set_option maxHeartbeats 1000000 in
theorem rwide_6 (r : Int) (w : World) (h : 42192 ≤ r) (h2 : r ≤ 44031) : Calls Tryd.prog 64 #[.int .i32 r] w fun e w' => e = .returned (.bool false) ∧ w = w' := by
  have a4352 : decide (4352 ≤ r) = true := by simp; omega
  have b4447 : decide (r ≤ 4447) = false := by simp; omega
  have a11904 : decide (11904 ≤ r) = true := by simp; omega
  have b12350 : decide (r ≤ 12350) = false := by simp; omega
  have a12353 : decide (12353 ≤ r) = true := by simp; omega
  have b42191 : decide (r ≤ 42191) = false := by simp; omega
  have a44032 : decide (44032 ≤ r) = false := by simp; omega
  have b55203 : decide (r ≤ 55203) = true := by simp; omega
  have a63744 : decide (63744 ≤ r) = false := by simp; omega
  have b64255 : decide (r ≤ 64255) = true := by simp; omega
  have a65072 : decide (65072 ≤ r) = false := by simp; omega
  have b65135 : decide (r ≤ 65135) = true := by simp; omega
  have a65281 : decide (65281 ≤ r) = false := by simp; omega
  have b65376 : decide (r ≤ 65376) = true := by simp; omega
  have a65504 : decide (65504 ≤ r) = false := by simp; omega
  have b65510 : decide (r ≤ 65510) = true := by simp; omega
  have a127744 : decide (127744 ≤ r) = false := by simp; omega
  have b128591 : decide (r ≤ 128591) = true := by simp; omega
  have a129280 : decide (129280 ≤ r) = false := by simp; omega
  have b129535 : decide (r ≤ 129535) = true := by simp; omega
  have a131072 : decide (131072 ≤ r) = false := by simp; omega
  have b262141 : decide (r ≤ 262141) = true := by simp; omega
  clear h h2
  go_enter Tryd.func64, Tryd.ntmps64
  simp only [List.append]
  go_wp2
  all_goals go_ret
  all_goals exact ⟨rfl, rfl⟩
set_option maxRecDepth 100000 in
set_option maxHeartbeats 1000000 in
theorem rwide_7 (r : Int) (w : World) (h : 44032 ≤ r) (h2 : r ≤ 55203) : Calls Tryd.prog 64 #[.int .i32 r] w fun e w' => e = .returned (.bool true) ∧ w = w' := by
  have a4352 : decide (4352 ≤ r) = true := by simp; omega
  have b4447 : decide (r ≤ 4447) = false := by simp; omega
  have a11904 : decide (11904 ≤ r) = true := by simp; omega
  have b12350 : decide (r ≤ 12350) = false := by simp; omega
  have a12353 : decide (12353 ≤ r) = true := by simp; omega
  have b42191 : decide (r ≤ 42191) = false := by simp; omega
  have a44032 : decide (44032 ≤ r) = true := by simp; omega
  have b55203 : decide (r ≤ 55203) = true := by simp; omega
  have a63744 : decide (63744 ≤ r) = false := by simp; omega
  have b64255 : decide (r ≤ 64255) = true := by simp; omega
  have a65072 : decide (65072 ≤ r) = false := by simp; omega
  have b65135 : decide (r ≤ 65135) = true := by simp; omega
  have a65281 : decide (65281 ≤ r) = false := by simp; omega
  have b65376 : decide (r ≤ 65376) = true := by simp; omega
  have a65504 : decide (65504 ≤ r) = false := by simp; omega
  have b65510 : decide (r ≤ 65510) = true := by simp; omega
  have a127744 : decide (127744 ≤ r) = false := by simp; omega
  have b128591 : decide (r ≤ 128591) = true := by simp; omega
  have a129280 : decide (129280 ≤ r) = false := by simp; omega
  have b129535 : decide (r ≤ 129535) = true := by simp; omega
  have a131072 : decide (131072 ≤ r) = false := by simp; omega
  have b262141 : decide (r ≤ 262141) = true := by simp; omega
  clear h h2
  go_enter Tryd.func64, Tryd.ntmps64
  simp only [List.append]
  go_wp2
  all_goals go_ret
  all_goals exact ⟨rfl, rfl⟩
set_option maxRecDepth 100000 in
set_option maxHeartbeats 1000000 in
theorem rwide_8 (r : Int) (w : World) (h : 55204 ≤ r) (h2 : r ≤ 63743) : Calls Tryd.prog 64 #[.int .i32 r] w fun e w' => e = .returned (.bool false) ∧ w = w' := by
  have a4352 : decide (4352 ≤ r) = true := by simp; omega
  have b4447 : decide (r ≤ 4447) = false := by simp; omega
  have a11904 : decide (11904 ≤ r) = true := by simp; omega
  have b12350 : decide (r ≤ 12350) = false := by simp; omega
  have a12353 : decide (12353 ≤ r) = true := by simp; omega
  have b42191 : decide (r ≤ 42191) = false := by simp; omega
  have a44032 : decide (44032 ≤ r) = true := by simp; omega
  have b55203 : decide (r ≤ 55203) = false := by simp; omega
  have a63744 : decide (63744 ≤ r) = false := by simp; omega
  have b64255 : decide (r ≤ 64255) = true := by simp; omega
  have a65072 : decide (65072 ≤ r) = false := by simp; omega
  have b65135 : decide (r ≤ 65135) = true := by simp; omega
  have a65281 : decide (65281 ≤ r) = false := by simp; omega
  have b65376 : decide (r ≤ 65376) = true := by simp; omega
  have a65504 : decide (65504 ≤ r) = false := by simp; omega
  have b65510 : decide (r ≤ 65510) = true := by simp; omega
  have a127744 : decide (127744 ≤ r) = false := by simp; omega
  have b128591 : decide (r ≤ 128591) = true := by simp; omega
  have a129280 : decide (129280 ≤ r) = false := by simp; omega
  have b129535 : decide (r ≤ 129535) = true := by simp; omega
  have a131072 : decide (131072 ≤ r) = false := by simp; omega
  have b262141 : decide (r ≤ 262141) = true := by simp; omega
  clear h h2
  go_enter Tryd.func64, Tryd.ntmps64
  simp only [List.append]
  go_wp2
  all_goals go_ret
  all_goals exact ⟨rfl, rfl⟩
set_option maxRecDepth 100000 in
set_option maxHeartbeats 1000000 in
theorem rwide_9 (r : Int) (w : World) (h : 63744 ≤ r) (h2 : r ≤ 64255) : Calls Tryd.prog 64 #[.int .i32 r] w fun e w' => e = .returned (.bool true) ∧ w = w' := by
  have a4352 : decide (4352 ≤ r) = true := by simp; omega
  have b4447 : decide (r ≤ 4447) = false := by simp; omega
  have a11904 : decide (11904 ≤ r) = true := by simp; omega
  have b12350 : decide (r ≤ 12350) = false := by simp; omega
  have a12353 : decide (12353 ≤ r) = true := by simp; omega
  have b42191 : decide (r ≤ 42191) = false := by simp; omega
  have a44032 : decide (44032 ≤ r) = true := by simp; omega
  have b55203 : decide (r ≤ 55203) = false := by simp; omega
  have a63744 : decide (63744 ≤ r) = true := by simp; omega
  have b64255 : decide (r ≤ 64255) = true := by simp; omega
  have a65072 : decide (65072 ≤ r) = false := by simp; omega
  have b65135 : decide (r ≤ 65135) = true := by simp; omega
  have a65281 : decide (65281 ≤ r) = false := by simp; omega
  have b65376 : decide (r ≤ 65376) = true := by simp; omega
  have a65504 : decide (65504 ≤ r) = false := by simp; omega
  have b65510 : decide (r ≤ 65510) = true := by simp; omega
  have a127744 : decide (127744 ≤ r) = false := by simp; omega
  have b128591 : decide (r ≤ 128591) = true := by simp; omega
  have a129280 : decide (129280 ≤ r) = false := by simp; omega
  have b129535 : decide (r ≤ 129535) = true := by simp; omega
  have a131072 : decide (131072 ≤ r) = false := by simp; omega
  have b262141 : decide (r ≤ 262141) = true := by simp; omega
  clear h h2
  go_enter Tryd.func64, Tryd.ntmps64
  simp only [List.append]
  go_wp2
  all_goals go_ret
  all_goals exact ⟨rfl, rfl⟩
set_option maxRecDepth 100000 in
set_option maxHeartbeats 1000000 in
theorem rwide_10 (r : Int) (w : World) (h : 64256 ≤ r) (h2 : r ≤ 65071) : Calls Tryd.prog 64 #[.int .i32 r] w fun e w' => e = .returned (.bool false) ∧ w = w' := by
  have a4352 : decide (4352 ≤ r) = true := by simp; omega
  have b4447 : decide (r ≤ 4447) = false := by simp; omega
  have a11904 : decide (11904 ≤ r) = true := by simp; omega
  have b12350 : decide (r ≤ 12350) = false := by simp; omega
  have a12353 : decide (12353 ≤ r) = true := by simp; omega
  have b42191 : decide (r ≤ 42191) = false := by simp; omega
  have a44032 : decide (44032 ≤ r) = true := by simp; omega
  have b55203 : decide (r ≤ 55203) = false := by simp; omega
  have a63744 : decide (63744 ≤ r) = true := by simp; omega
  have b64255 : decide (r ≤ 64255) = false := by simp; omega
  have a65072 : decide (65072 ≤ r) = false := by simp; omega
  have b65135 : decide (r ≤ 65135) = true := by simp; omega
  have a65281 : decide (65281 ≤ r) = false := by simp; omega
  have b65376 : decide (r ≤ 65376) = true := by simp; omega
  have a65504 : decide (65504 ≤ r) = false := by simp; omega
  have b65510 : decide (r ≤ 65510) = true := by simp; omega
  have a127744 : decide (127744 ≤ r) = false := by simp; omega
  have b128591 : decide (r ≤ 128591) = true := by simp; omega
  have a129280 : decide (129280 ≤ r) = false := by simp; omega
  have b129535 : decide (r ≤ 129535) = true := by simp; omega
  have a131072 : decide (131072 ≤ r) = false := by simp; omega
  have b262141 : decide (r ≤ 262141) = true := by simp; omega
  clear h h2
  go_enter Tryd.func64, Tryd.ntmps64
  simp only [List.append]
  go_wp2
  all_goals go_ret
  all_goals exact ⟨rfl, rfl⟩
set_option maxRecDepth 100000 in
set_option maxHeartbeats 1000000 in
theorem rwide_11 (r : Int) (w : World) (h : 65072 ≤ r) (h2 : r ≤ 65135) : Calls Tryd.prog 64 #[.int .i32 r] w fun e w' => e = .returned (.bool true) ∧ w = w' := by
  have a4352 : decide (4352 ≤ r) = true := by simp; omega
  have b4447 : decide (r ≤ 4447) = false := by simp; omega
  have a11904 : decide (11904 ≤ r) = true := by simp; omega
  have b12350 : decide (r ≤ 12350) = false := by simp; omega
  have a12353 : decide (12353 ≤ r) = true := by simp; omega
  have b42191 : decide (r ≤ 42191) = false := by simp; omega
  have a44032 : decide (44032 ≤ r) = true := by simp; omega
  have b55203 : decide (r ≤ 55203) = false := by simp; omega
  have a63744 : decide (63744 ≤ r) = true := by simp; omega
  have b64255 : decide (r ≤ 64255) = false := by simp; omega
  have a65072 : decide (65072 ≤ r) = true := by simp; omega
  have b65135 : decide (r ≤ 65135) = true := by simp; omega
  have a65281 : decide (65281 ≤ r) = false := by simp; omega
  have b65376 : decide (r ≤ 65376) = true := by simp; omega
  have a65504 : decide (65504 ≤ r) = false := by simp; omega
  have b65510 : decide (r ≤ 65510) = true := by simp; omega
  have a127744 : decide (127744 ≤ r) = false := by simp; omega
  have b128591 : decide (r ≤ 128591) = true := by simp; omega
  have a129280 : decide (129280 ≤ r) = false := by simp; omega
  have b129535 : decide (r ≤ 129535) = true := by simp; omega
  have a131072 : decide (131072 ≤ r) = false := by simp; omega
  have b262141 : decide (r ≤ 262141) = true := by simp; omega
  clear h h2
  go_enter Tryd.func64, Tryd.ntmps64
  simp only [List.append]
  go_wp2
  all_goals go_ret
  all_goals exact ⟨rfl, rfl⟩
set_option maxRecDepth 100000 in
set_option maxHeartbeats 1000000 in
theorem rwide_12 (r : Int) (w : World) (h : 65136 ≤ r) (h2 : r ≤ 65280) : Calls Tryd.prog 64 #[.int .i32 r] w fun e w' => e = .returned (.bool false) ∧ w = w' := by
  have a4352 : decide (4352 ≤ r) = true := by simp; omega
  have b4447 : decide (r ≤ 4447) = false := by simp; omega
  have a11904 : decide (11904 ≤ r) = true := by simp; omega
  have b12350 : decide (r ≤ 12350) = false := by simp; omega
  have a12353 : decide (12353 ≤ r) = true := by simp; omega
  have b42191 : decide (r ≤ 42191) = false := by simp; omega
  have a44032 : decide (44032 ≤ r) = true := by simp; omega
  have b55203 : decide (r ≤ 55203) = false := by simp; omega
  have a63744 : decide (63744 ≤ r) = true := by simp; omega
  have b64255 : decide (r ≤ 64255) = false := by simp; omega
  have a65072 : decide (65072 ≤ r) = true := by simp; omega
  have b65135 : decide (r ≤ 65135) = false := by simp; omega
  have a65281 : decide (65281 ≤ r) = false := by simp; omega
  have b65376 : decide (r ≤ 65376) = true := by simp; omega
  have a65504 : decide (65504 ≤ r) = false := by simp; omega
  have b65510 : decide (r ≤ 65510) = true := by simp; omega
  have a127744 : decide (127744 ≤ r) = false := by simp; omega
  have b128591 : decide (r ≤ 128591) = true := by simp; omega
  have a129280 : decide (129280 ≤ r) = false := by simp; omega
  have b129535 : decide (r ≤ 129535) = true := by simp; omega
  have a131072 : decide (131072 ≤ r) = false := by simp; omega
  have b262141 : decide (r ≤ 262141) = true := by simp; omega
  clear h h2
  go_enter Tryd.func64, Tryd.ntmps64
  simp only [List.append]
  go_wp2
  all_goals go_ret
  all_goals exact ⟨rfl, rfl⟩
set_option maxRecDepth 100000 in
set_option maxHeartbeats 1000000 in
theorem rwide_13 (r : Int) (w : World) (h : 65281 ≤ r) (h2 : r ≤ 65376) : Calls Tryd.prog 64 #[.int .i32 r] w fun e w' => e = .returned (.bool true) ∧ w = w' := by
  have a4352 : decide (4352 ≤ r) = true := by simp; omega
  have b4447 : decide (r ≤ 4447) = false := by simp; omega
  have a11904 : decide (11904 ≤ r) = true := by simp; omega
  have b12350 : decide (r ≤ 12350) = false := by simp; omega
  have a12353 : decide (12353 ≤ r) = true := by simp; omega
  have b42191 : decide (r ≤ 42191) = false := by simp; omega
  have a44032 : decide (44032 ≤ r) = true := by simp; omega
  have b55203 : decide (r ≤ 55203) = false := by simp; omega
  have a63744 : decide (63744 ≤ r) = true := by simp; omega
  have b64255 : decide (r ≤ 64255) = false := by simp; omega
  have a65072 : decide (65072 ≤ r) = true := by simp; omega
  have b65135 : decide (r ≤ 65135) = false := by simp; omega
  have a65281 : decide (65281 ≤ r) = true := by simp; omega
  have b65376 : decide (r ≤ 65376) = true := by simp; omega
  have a65504 : decide (65504 ≤ r) = false := by simp; omega
  have b65510 : decide (r ≤ 65510) = true := by simp; omega
  have a127744 : decide (127744 ≤ r) = false := by simp; omega
  have b128591 : decide (r ≤ 128591) = true := by simp; omega
  have a129280 : decide (129280 ≤ r) = false := by simp; omega
  have b129535 : decide (r ≤ 129535) = true := by simp; omega
  have a131072 : decide (131072 ≤ r) = false := by simp; omega
  have b262141 : decide (r ≤ 262141) = true := by simp; omega
  clear h h2
  go_enter Tryd.func64, Tryd.ntmps64
  simp only [List.append]
  go_wp2
  all_goals go_ret
  all_goals exact ⟨rfl, rfl⟩
set_option maxRecDepth 100000 in
set_option maxHeartbeats 1000000 in
theorem rwide_14 (r : Int) (w : World) (h : 65377 ≤ r) (h2 : r ≤ 65503) : Calls Tryd.prog 64 #[.int .i32 r] w fun e w' => e = .returned (.bool false) ∧ w = w' := by
  have a4352 : decide (4352 ≤ r) = true := by simp; omega
  have b4447 : decide (r ≤ 4447) = false := by simp; omega
  have a11904 : decide (11904 ≤ r) = true := by simp; omega
  have b12350 : decide (r ≤ 12350) = false := by simp; omega
  have a12353 : decide (12353 ≤ r) = true := by simp; omega
  have b42191 : decide (r ≤ 42191) = false := by simp; omega
  have a44032 : decide (44032 ≤ r) = true := by simp; omega
  have b55203 : decide (r ≤ 55203) = false := by simp; omega
  have a63744 : decide (63744 ≤ r) = true := by simp; omega
  have b64255 : decide (r ≤ 64255) = false := by simp; omega
  have a65072 : decide (65072 ≤ r) = true := by simp; omega
  have b65135 : decide (r ≤ 65135) = false := by simp; omega
  have a65281 : decide (65281 ≤ r) = true := by simp; omega
  have b65376 : decide (r ≤ 65376) = false := by simp; omega
  have a65504 : decide (65504 ≤ r) = false := by simp; omega
  have b65510 : decide (r ≤ 65510) = true := by simp; omega
  have a127744 : decide (127744 ≤ r) = false := by simp; omega
  have b128591 : decide (r ≤ 128591) = true := by simp; omega
  have a129280 : decide (129280 ≤ r) = false := by simp; omega
  have b129535 : decide (r ≤ 129535) = true := by simp; omega
  have a131072 : decide (131072 ≤ r) = false := by simp; omega
  have b262141 : decide (r ≤ 262141) = true := by simp; omega
  clear h h2
  go_enter Tryd.func64, Tryd.ntmps64
  simp only [List.append]
  go_wp2
  all_goals go_ret
  all_goals exact ⟨rfl, rfl⟩
set_option maxRecDepth 100000 in
set_option maxHeartbeats 1000000 in
theorem rwide_15 (r : Int) (w : World) (h : 65504 ≤ r) (h2 : r ≤ 65510) : Calls Tryd.prog 64 #[.int .i32 r] w fun e w' => e = .returned (.bool true) ∧ w = w' := by
  have a4352 : decide (4352 ≤ r) = true := by simp; omega
  have b4447 : decide (r ≤ 4447) = false := by simp; omega
  have a11904 : decide (11904 ≤ r) = true := by simp; omega
  have b12350 : decide (r ≤ 12350) = false := by simp; omega
  have a12353 : decide (12353 ≤ r) = true := by simp; omega
  have b42191 : decide (r ≤ 42191) = false := by simp; omega
  have a44032 : decide (44032 ≤ r) = true := by simp; omega
  have b55203 : decide (r ≤ 55203) = false := by simp; omega
  have a63744 : decide (63744 ≤ r) = true := by simp; omega
  have b64255 : decide (r ≤ 64255) = false := by simp; omega
  have a65072 : decide (65072 ≤ r) = true := by simp; omega
  have b65135 : decide (r ≤ 65135) = false := by simp; omega
  have a65281 : decide (65281 ≤ r) = true := by simp; omega
  have b65376 : decide (r ≤ 65376) = false := by simp; omega
  have a65504 : decide (65504 ≤ r) = true := by simp; omega
  have b65510 : decide (r ≤ 65510) = true := by simp; omega
  have a127744 : decide (127744 ≤ r) = false := by simp; omega
  have b128591 : decide (r ≤ 128591) = true := by simp; omega
  have a129280 : decide (129280 ≤ r) = false := by simp; omega
  have b129535 : decide (r ≤ 129535) = true := by simp; omega
  have a131072 : decide (131072 ≤ r) = false := by simp; omega
  have b262141 : decide (r ≤ 262141) = true := by simp; omega
  clear h h2
  go_enter Tryd.func64, Tryd.ntmps64
  simp only [List.append]
  go_wp2
  all_goals go_ret
  all_goals exact ⟨rfl, rfl⟩
set_option maxRecDepth 100000 in
set_option maxHeartbeats 1000000 in
theorem rwide_16 (r : Int) (w : World) (h : 65511 ≤ r) (h2 : r ≤ 127743) : Calls Tryd.prog 64 #[.int .i32 r] w fun e w' => e = .returned (.bool false) ∧ w = w' := by
  have a4352 : decide (4352 ≤ r) = true := by simp; omega
  have b4447 : decide (r ≤ 4447) = false := by simp; omega
  have a11904 : decide (11904 ≤ r) = true := by simp; omega
  have b12350 : decide (r ≤ 12350) = false := by simp; omega
  have a12353 : decide (12353 ≤ r) = true := by simp; omega
  have b42191 : decide (r ≤ 42191) = false := by simp; omega
  have a44032 : decide (44032 ≤ r) = true := by simp; omega
  have b55203 : decide (r ≤ 55203) = false := by simp; omega
  have a63744 : decide (63744 ≤ r) = true := by simp; omega
  have b64255 : decide (r ≤ 64255) = false := by simp; omega
  have a65072 : decide (65072 ≤ r) = true := by simp; omega
  have b65135 : decide (r ≤ 65135) = false := by simp; omega
  have a65281 : decide (65281 ≤ r) = true := by simp; omega
  have b65376 : decide (r ≤ 65376) = false := by simp; omega
  have a65504 : decide (65504 ≤ r) = true := by simp; omega
  have b65510 : decide (r ≤ 65510) = false := by simp; omega
  have a127744 : decide (127744 ≤ r) = false := by simp; omega
  have b128591 : decide (r ≤ 128591) = true := by simp; omega
  have a129280 : decide (129280 ≤ r) = false := by simp; omega
  have b129535 : decide (r ≤ 129535) = true := by simp; omega
  have a131072 : decide (131072 ≤ r) = false := by simp; omega
  have b262141 : decide (r ≤ 262141) = true := by simp; omega
  clear h h2
  go_enter Tryd.func64, Tryd.ntmps64
  simp only [List.append]
  go_wp2
  all_goals go_ret
  all_goals exact ⟨rfl, rfl⟩
set_option maxRecDepth 100000 in
set_option maxHeartbeats 1000000 in
theorem rwide_17 (r : Int) (w : World) (h : 127744 ≤ r) (h2 : r ≤ 128591) : Calls Tryd.prog 64 #[.int .i32 r] w fun e w' => e = .returned (.bool true) ∧ w = w' := by
  have a4352 : decide (4352 ≤ r) = true := by simp; omega
  have b4447 : decide (r ≤ 4447) = false := by simp; omega
  have a11904 : decide (11904 ≤ r) = true := by simp; omega
  have b12350 : decide (r ≤ 12350) = false := by simp; omega
  have a12353 : decide (12353 ≤ r) = true := by simp; omega
  have b42191 : decide (r ≤ 42191) = false := by simp; omega
  have a44032 : decide (44032 ≤ r) = true := by simp; omega
  have b55203 : decide (r ≤ 55203) = false := by simp; omega
  have a63744 : decide (63744 ≤ r) = true := by simp; omega
  have b64255 : decide (r ≤ 64255) = false := by simp; omega
  have a65072 : decide (65072 ≤ r) = true := by simp; omega
  have b65135 : decide (r ≤ 65135) = false := by simp; omega
  have a65281 : decide (65281 ≤ r) = true := by simp; omega
  have b65376 : decide (r ≤ 65376) = false := by simp; omega
  have a65504 : decide (65504 ≤ r) = true := by simp; omega
  have b65510 : decide (r ≤ 65510) = false := by simp; omega
  have a127744 : decide (127744 ≤ r) = true := by simp; omega
  have b128591 : decide (r ≤ 128591) = true := by simp; omega
  have a129280 : decide (129280 ≤ r) = false := by simp; omega
  have b129535 : decide (r ≤ 129535) = true := by simp; omega
  have a131072 : decide (131072 ≤ r) = false := by simp; omega
  have b262141 : decide (r ≤ 262141) = true := by simp; omega
  clear h h2
  go_enter Tryd.func64, Tryd.ntmps64
  simp only [List.append]
  go_wp2
  all_goals go_ret
  all_goals exact ⟨rfl, rfl⟩
set_option maxRecDepth 100000 in
set_option maxHeartbeats 1000000 in
theorem rwide_18 (r : Int) (w : World) (h : 128592 ≤ r) (h2 : r ≤ 129279) : Calls Tryd.prog 64 #[.int .i32 r] w fun e w' => e = .returned (.bool false) ∧ w = w' := by
  have a4352 : decide (4352 ≤ r) = true := by simp; omega
  have b4447 : decide (r ≤ 4447) = false := by simp; omega
  have a11904 : decide (11904 ≤ r) = true := by simp; omega
  have b12350 : decide (r ≤ 12350) = false := by simp; omega
  have a12353 : decide (12353 ≤ r) = true := by simp; omega
  have b42191 : decide (r ≤ 42191) = false := by simp; omega
  have a44032 : decide (44032 ≤ r) = true := by simp; omega
  have b55203 : decide (r ≤ 55203) = false := by simp; omega
  have a63744 : decide (63744 ≤ r) = true := by simp; omega
  have b64255 : decide (r ≤ 64255) = false := by simp; omega
  have a65072 : decide (65072 ≤ r) = true := by simp; omega
  have b65135 : decide (r ≤ 65135) = false := by simp; omega
  have a65281 : decide (65281 ≤ r) = true := by simp; omega
  have b65376 : decide (r ≤ 65376) = false := by simp; omega
  have a65504 : decide (65504 ≤ r) = true := by simp; omega
  have b65510 : decide (r ≤ 65510) = false := by simp; omega
  have a127744 : decide (127744 ≤ r) = true := by simp; omega
  have b128591 : decide (r ≤ 128591) = false := by simp; omega
  have a129280 : decide (129280 ≤ r) = false := by simp; omega
  have b129535 : decide (r ≤ 129535) = true := by simp; omega
  have a131072 : decide (131072 ≤ r) = false := by simp; omega
  have b262141 : decide (r ≤ 262141) = true := by simp; omega
  clear h h2
  go_enter Tryd.func64, Tryd.ntmps64
  simp only [List.append]
  go_wp2
  all_goals go_ret
  all_goals exact ⟨rfl, rfl⟩
set_option maxRecDepth 100000 in
set_option maxHeartbeats 1000000 in
theorem rwide_19 (r : Int) (w : World) (h : 129280 ≤ r) (h2 : r ≤ 129535) : Calls Tryd.prog 64 #[.int .i32 r] w fun e w' => e = .returned (.bool true) ∧ w = w' := by
  have a4352 : decide (4352 ≤ r) = true := by simp; omega
  have b4447 : decide (r ≤ 4447) = false := by simp; omega
  have a11904 : decide (11904 ≤ r) = true := by simp; omega
  have b12350 : decide (r ≤ 12350) = false := by simp; omega
  have a12353 : decide (12353 ≤ r) = true := by simp; omega
  have b42191 : decide (r ≤ 42191) = false := by simp; omega
  have a44032 : decide (44032 ≤ r) = true := by simp; omega
  have b55203 : decide (r ≤ 55203) = false := by simp; omega
  have a63744 : decide (63744 ≤ r) = true := by simp; omega
  have b64255 : decide (r ≤ 64255) = false := by simp; omega
  have a65072 : decide (65072 ≤ r) = true := by simp; omega
  have b65135 : decide (r ≤ 65135) = false := by simp; omega
  have a65281 : decide (65281 ≤ r) = true := by simp; omega
  have b65376 : decide (r ≤ 65376) = false := by simp; omega
  have a65504 : decide (65504 ≤ r) = true := by simp; omega
  have b65510 : decide (r ≤ 65510) = false := by simp; omega
  have a127744 : decide (127744 ≤ r) = true := by simp; omega
  have b128591 : decide (r ≤ 128591) = false := by simp; omega
  have a129280 : decide (129280 ≤ r) = true := by simp; omega
  have b129535 : decide (r ≤ 129535) = true := by simp; omega
  have a131072 : decide (131072 ≤ r) = false := by simp; omega
  have b262141 : decide (r ≤ 262141) = true := by simp; omega
  clear h h2
  go_enter Tryd.func64, Tryd.ntmps64
  simp only [List.append]
  go_wp2
  all_goals go_ret
  all_goals exact ⟨rfl, rfl⟩
set_option maxRecDepth 100000 in
set_option maxHeartbeats 1000000 in
theorem rwide_20 (r : Int) (w : World) (h : 129536 ≤ r) (h2 : r ≤ 131071) : Calls Tryd.prog 64 #[.int .i32 r] w fun e w' => e = .returned (.bool false) ∧ w = w' := by
  have a4352 : decide (4352 ≤ r) = true := by simp; omega
  have b4447 : decide (r ≤ 4447) = false := by simp; omega
  have a11904 : decide (11904 ≤ r) = true := by simp; omega
  have b12350 : decide (r ≤ 12350) = false := by simp; omega
  have a12353 : decide (12353 ≤ r) = true := by simp; omega
  have b42191 : decide (r ≤ 42191) = false := by simp; omega
  have a44032 : decide (44032 ≤ r) = true := by simp; omega
  have b55203 : decide (r ≤ 55203) = false := by simp; omega
  have a63744 : decide (63744 ≤ r) = true := by simp; omega
  have b64255 : decide (r ≤ 64255) = false := by simp; omega
  have a65072 : decide (65072 ≤ r) = true := by simp; omega
  have b65135 : decide (r ≤ 65135) = false := by simp; omega
  have a65281 : decide (65281 ≤ r) = true := by simp; omega
  have b65376 : decide (r ≤ 65376) = false := by simp; omega
  have a65504 : decide (65504 ≤ r) = true := by simp; omega
  have b65510 : decide (r ≤ 65510) = false := by simp; omega
  have a127744 : decide (127744 ≤ r) = true := by simp; omega
  have b128591 : decide (r ≤ 128591) = false := by simp; omega
  have a129280 : decide (129280 ≤ r) = true := by simp; omega
  have b129535 : decide (r ≤ 129535) = false := by simp; omega
  have a131072 : decide (131072 ≤ r) = false := by simp; omega
  have b262141 : decide (r ≤ 262141) = true := by simp; omega
  clear h h2
  go_enter Tryd.func64, Tryd.ntmps64
  simp only [List.append]
  go_wp2
  all_goals go_ret
  all_goals exact ⟨rfl, rfl⟩
set_option maxRecDepth 100000 in
set_option maxHeartbeats 1000000 in
theorem rwide_21 (r : Int) (w : World) (h : 131072 ≤ r) (h2 : r ≤ 262141) : Calls Tryd.prog 64 #[.int .i32 r] w fun e w' => e = .returned (.bool true) ∧ w = w' := by
  have a4352 : decide (4352 ≤ r) = true := by simp; omega
  have b4447 : decide (r ≤ 4447) = false := by simp; omega
  have a11904 : decide (11904 ≤ r) = true := by simp; omega
  have b12350 : decide (r ≤ 12350) = false := by simp; omega
  have a12353 : decide (12353 ≤ r) = true := by simp; omega
  have b42191 : decide (r ≤ 42191) = false := by simp; omega
  have a44032 : decide (44032 ≤ r) = true := by simp; omega
  have b55203 : decide (r ≤ 55203) = false := by simp; omega
  have a63744 : decide (63744 ≤ r) = true := by simp; omega
  have b64255 : decide (r ≤ 64255) = false := by simp; omega
  have a65072 : decide (65072 ≤ r) = true := by simp; omega
  have b65135 : decide (r ≤ 65135) = false := by simp; omega
  have a65281 : decide (65281 ≤ r) = true := by simp; omega
  have b65376 : decide (r ≤ 65376) = false := by simp; omega
  have a65504 : decide (65504 ≤ r) = true := by simp; omega
  have b65510 : decide (r ≤ 65510) = false := by simp; omega
  have a127744 : decide (127744 ≤ r) = true := by simp; omega
  have b128591 : decide (r ≤ 128591) = false := by simp; omega
  have a129280 : decide (129280 ≤ r) = true := by simp; omega
  have b129535 : decide (r ≤ 129535) = false := by simp; omega
  have a131072 : decide (131072 ≤ r) = true := by simp; omega
  have b262141 : decide (r ≤ 262141) = true := by simp; omega
  clear h h2
  go_enter Tryd.func64, Tryd.ntmps64
  simp only [List.append]
  go_wp2
  all_goals go_ret
  all_goals exact ⟨rfl, rfl⟩
set_option maxRecDepth 100000 in
set_option maxHeartbeats 1000000 in
theorem rwide_22 (r : Int) (w : World) (h : 262142 ≤ r) : Calls Tryd.prog 64 #[.int .i32 r] w fun e w' => e = .returned (.bool false) ∧ w = w' := by
  have a4352 : decide (4352 ≤ r) = true := by simp; omega
  have b4447 : decide (r ≤ 4447) = false := by simp; omega
  have a11904 : decide (11904 ≤ r) = true := by simp; omega
  have b12350 : decide (r ≤ 12350) = false := by simp; omega
  have a12353 : decide (12353 ≤ r) = true := by simp; omega
  have b42191 : decide (r ≤ 42191) = false := by simp; omega
  have a44032 : decide (44032 ≤ r) = true := by simp; omega
  have b55203 : decide (r ≤ 55203) = false := by simp; omega
  have a63744 : decide (63744 ≤ r) = true := by simp; omega
  have b64255 : decide (r ≤ 64255) = false := by simp; omega
  have a65072 : decide (65072 ≤ r) = true := by simp; omega
  have b65135 : decide (r ≤ 65135) = false := by simp; omega
  have a65281 : decide (65281 ≤ r) = true := by simp; omega
  have b65376 : decide (r ≤ 65376) = false := by simp; omega
  have a65504 : decide (65504 ≤ r) = true := by simp; omega
  have b65510 : decide (r ≤ 65510) = false := by simp; omega
  have a127744 : decide (127744 ≤ r) = true := by simp; omega
  have b128591 : decide (r ≤ 128591) = false := by simp; omega
  have a129280 : decide (129280 ≤ r) = true := by simp; omega
  have b129535 : decide (r ≤ 129535) = false := by simp; omega
  have a131072 : decide (131072 ≤ r) = true := by simp; omega
  have b262141 : decide (r ≤ 262141) = false := by simp; omega
  clear h
  go_enter Tryd.func64, Tryd.ntmps64
  simp only [List.append]
  go_wp2
  all_goals go_ret
  all_goals exact ⟨rfl, rfl⟩
theorem rwide_any (r : Int) (w : World) : Calls Tryd.prog 64 #[.int .i32 r] w fun e w' => e = .returned (.bool (wid r)) ∧ w = w' := by
  by_cases h0 : r < 4352
  · rw [show wid r = false by unfold wid; simp; omega]; exact rwide_0 r w (by omega)
  by_cases h1 : r < 4448
  · rw [show wid r = true by unfold wid; simp; omega]; exact rwide_1 r w (by omega) (by omega)
  by_cases h2 : r < 11904
  · rw [show wid r = false by unfold wid; simp; omega]; exact rwide_2 r w (by omega) (by omega)
  by_cases h3 : r < 12351
  · rw [show wid r = true by unfold wid; simp; omega]; exact rwide_3 r w (by omega) (by omega)
  by_cases h4 : r < 12353
  · rw [show wid r = false by unfold wid; simp; omega]; exact rwide_4 r w (by omega) (by omega)
  by_cases h5 : r < 42192
  · rw [show wid r = true by unfold wid; simp; omega]; exact rwide_5 r w (by omega) (by omega)
  by_cases h6 : r < 44032
  · rw [show wid r = false by unfold wid; simp; omega]; exact rwide_6 r w (by omega) (by omega)
  by_cases h7 : r < 55204
  · rw [show wid r = true by unfold wid; simp; omega]; exact rwide_7 r w (by omega) (by omega)
  by_cases h8 : r < 63744
  · rw [show wid r = false by unfold wid; simp; omega]; exact rwide_8 r w (by omega) (by omega)
  by_cases h9 : r < 64256
  · rw [show wid r = true by unfold wid; simp; omega]; exact rwide_9 r w (by omega) (by omega)
  by_cases h10 : r < 65072
  · rw [show wid r = false by unfold wid; simp; omega]; exact rwide_10 r w (by omega) (by omega)
  by_cases h11 : r < 65136
  · rw [show wid r = true by unfold wid; simp; omega]; exact rwide_11 r w (by omega) (by omega)
  by_cases h12 : r < 65281
  · rw [show wid r = false by unfold wid; simp; omega]; exact rwide_12 r w (by omega) (by omega)
  by_cases h13 : r < 65377
  · rw [show wid r = true by unfold wid; simp; omega]; exact rwide_13 r w (by omega) (by omega)
  by_cases h14 : r < 65504
  · rw [show wid r = false by unfold wid; simp; omega]; exact rwide_14 r w (by omega) (by omega)
  by_cases h15 : r < 65511
  · rw [show wid r = true by unfold wid; simp; omega]; exact rwide_15 r w (by omega) (by omega)
  by_cases h16 : r < 127744
  · rw [show wid r = false by unfold wid; simp; omega]; exact rwide_16 r w (by omega) (by omega)
  by_cases h17 : r < 128592
  · rw [show wid r = true by unfold wid; simp; omega]; exact rwide_17 r w (by omega) (by omega)
  by_cases h18 : r < 129280
  · rw [show wid r = false by unfold wid; simp; omega]; exact rwide_18 r w (by omega) (by omega)
  by_cases h19 : r < 129536
  · rw [show wid r = true by unfold wid; simp; omega]; exact rwide_19 r w (by omega) (by omega)
  by_cases h20 : r < 131072
  · rw [show wid r = false by unfold wid; simp; omega]; exact rwide_20 r w (by omega) (by omega)
  by_cases h21 : r < 262142
  · rw [show wid r = true by unfold wid; simp; omega]; exact rwide_21 r w (by omega) (by omega)
  rw [show wid r = false by unfold wid; simp; omega]; exact rwide_22 r w (by omega)
end Go.Proofs.YtkkioajmfkcloaaDoor
