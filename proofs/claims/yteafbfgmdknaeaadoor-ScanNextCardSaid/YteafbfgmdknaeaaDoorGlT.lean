/- The contracts of the reference's value and whole: strings of 1 to 4 bytes. -/
import Derived.Test.YteafbfgmdknaeaaDoorGlA
import Derived.Test.YteafbfgmdknaeaaDoorGlS
import Derived.BigQuiet
namespace Go.Proofs.YteafbfgmdknaeaaDoor
open Go.RowKit Go.PlainAid Gl L
set_option maxRecDepth 100000 in
theorem value_1 (s : ByteArray) (w : World) (hn : s.size = 1) :
   Calls Tryd.prog 50 #[.string s] w fun e w' => e = .returned (.int .i64 (valI s)) ∧ w = w' := by
  have hb := get_bt s
  have b0 := bt_nonneg s 0
  have b0' := bt_le s 0
  have HN := Lib.hid hn
  go_enter Tryd.func50, Tryd.ntmps50
  go_wp2
  go_ret
  exact ⟨ret_int (valI_1 s HN.out), rfl⟩
set_option maxRecDepth 100000 in
set_option maxHeartbeats 1000000 in
theorem value_2 (s : ByteArray) (w : World) (hn : s.size = 2) :
   Calls Tryd.prog 50 #[.string s] w fun e w' => e = .returned (.int .i64 (valI s)) ∧ w = w' := by
  have hb := get_bt s
  have b0 := bt_nonneg s 0
  have b0' := bt_le s 0
  have b1 := bt_nonneg s 1
  have b1' := bt_le s 1
  have HN := Lib.hid hn
  by_cases hl : bt s 0 < 192
  · go_enter Tryd.func50, Tryd.ntmps50
    go_wp2
    go_ret
    have hm := HN.out
    exact ⟨ret_int (valI_neg s (by omega)), rfl⟩
  · go_enter Tryd.func50, Tryd.ntmps50
    go_wp2
    go_rounds 2
    all_goals go_ret
    all_goals have hm := HN.out
    all_goals refine ⟨ret_int ?_, rfl⟩
    all_goals first | exact valI_neg s (by omega) | exact valI_2 s hm (by omega) (by omega)
set_option maxRecDepth 100000 in
set_option maxHeartbeats 1000000 in
theorem value_3 (s : ByteArray) (w : World) (hn : s.size = 3) :
   Calls Tryd.prog 50 #[.string s] w fun e w' => e = .returned (.int .i64 (valI s)) ∧ w = w' := by
  have hb := get_bt s
  have b0 := bt_nonneg s 0
  have b0' := bt_le s 0
  have b1 := bt_nonneg s 1
  have b1' := bt_le s 1
  have b2 := bt_nonneg s 2
  have b2' := bt_le s 2
  have HN := Lib.hid hn
  by_cases hl : bt s 0 < 224
  · go_enter Tryd.func50, Tryd.ntmps50
    go_wp2
    go_ret
    have hm := HN.out
    exact ⟨ret_int (valI_neg s (by omega)), rfl⟩
  · go_enter Tryd.func50, Tryd.ntmps50
    go_wp2
    go_rounds 3
    all_goals go_ret
    all_goals have hm := HN.out
    all_goals refine ⟨ret_int ?_, rfl⟩
    all_goals first | exact valI_neg s (by omega) | exact valI_3 s hm (by omega) (by omega) (by omega)
set_option maxRecDepth 100000 in
set_option maxHeartbeats 1000000 in
theorem value_4 (s : ByteArray) (w : World) (hn : s.size = 4) :
   Calls Tryd.prog 50 #[.string s] w fun e w' => e = .returned (.int .i64 (valI s)) ∧ w = w' := by
  have hb := get_bt s
  have b0 := bt_nonneg s 0
  have b0' := bt_le s 0
  have b1 := bt_nonneg s 1
  have b1' := bt_le s 1
  have b2 := bt_nonneg s 2
  have b2' := bt_le s 2
  have b3 := bt_nonneg s 3
  have b3' := bt_le s 3
  have HN := Lib.hid hn
  by_cases hl : bt s 0 < 240
  · go_enter Tryd.func50, Tryd.ntmps50
    go_wp2
    go_ret
    have hm := HN.out
    exact ⟨ret_int (valI_neg s (by omega)), rfl⟩
  · go_enter Tryd.func50, Tryd.ntmps50
    go_wp2
    go_rounds 4
    all_goals go_ret
    all_goals have hm := HN.out
    all_goals refine ⟨ret_int ?_, rfl⟩
    all_goals first | exact valI_neg s (by omega) | exact valI_4 s hm (by omega) (by omega) (by omega) (by omega)
theorem value_any (s : ByteArray) (w : World) (h1 : 1 ≤ s.size) (h4 : s.size ≤ 4) :
   Calls Tryd.prog 50 #[.string s] w fun e w' => e = .returned (.int .i64 (valI s)) ∧ w = w' := by
  rcases (show s.size = 1 ∨ s.size = 2 ∨ s.size = 3 ∨ s.size = 4 by omega) with h | h | h | h
  · exact value_1 s w h
  · exact value_2 s w h
  · exact value_3 s w h
  · exact value_4 s w h
end Go.Proofs.YteafbfgmdknaeaaDoor
