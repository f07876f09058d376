/-
  SameA SameB Same
-/
import Derived.Test.YtlbaockipeojhaaGreatAs
section
namespace Go.Proofs.YtlbaockipeojhaaGreat
open Go.RowKit
set_option linter.unusedVariables false
set_option linter.unusedSimpArgs false
set_option maxRecDepth 100000
set_option maxHeartbeats 8000000 in
theorem same_no1 (ty fl ty' fl' : Int) (tsn tag win ppid st ssn outs ins tsn' tag' win' ppid' st' ssn' outs' ins' : Nat) (A1 A2 A3 B1 B2 B3 : Option Addr) (k1 k2 k3 l1 l2 l3 : Nat) (gaps gaps' : List (Nat × Nat)) (dups dups' : List Nat) (items items' : List Item) (text text' : ByteArray) (w : World) (HB0 : ∀ CA CB, Hid (SmS w CA CB ((w.alloc (.cells CA 74)).alloc (.cells CB 74)))) (HCS : Hid ((Tryz.prog.info? 74).map (·.size) = some 14)) (b1 : (ty != ty') = true)
    (HONE : Hid (((#[.int .i64 ty, .int .i64 fl, .int .u32 (tsn : Int), .int .u32 (tag : Int), .int .u32 (win : Int), .int .u32 (ppid : Int), .int .u16 (st : Int), .int .u16 (ssn : Int), .int .u16 (outs : Int), .int .u16 (ins : Int), .slice A1 gaps.length k1, .slice A2 dups.length k2, .slice A3 items.length k3, .string text] : Array Value)).all (·.oneCell') = true)) (HONE' : Hid (((#[.int .i64 ty', .int .i64 fl', .int .u32 (tsn' : Int), .int .u32 (tag' : Int), .int .u32 (win' : Int), .int .u32 (ppid' : Int), .int .u16 (st' : Int), .int .u16 (ssn' : Int), .int .u16 (outs' : Int), .int .u16 (ins' : Int), .slice B1 gaps'.length l1, .slice B2 dups'.length l2, .slice B3 items'.length l3, .string text'] : Array Value)).all (·.oneCell') = true)) :
    Calls Tryz.prog 38 #[.agg #[.int .i64 ty, .int .i64 fl, .int .u32 (tsn : Int), .int .u32 (tag : Int), .int .u32 (win : Int), .int .u32 (ppid : Int), .int .u16 (st : Int), .int .u16 (ssn : Int), .int .u16 (outs : Int), .int .u16 (ins : Int), .slice A1 gaps.length k1, .slice A2 dups.length k2, .slice A3 items.length k3, .string text], .agg #[.int .i64 ty', .int .i64 fl', .int .u32 (tsn' : Int), .int .u32 (tag' : Int), .int .u32 (win' : Int), .int .u32 (ppid' : Int), .int .u16 (st' : Int), .int .u16 (ssn' : Int), .int .u16 (outs' : Int), .int .u16 (ins' : Int), .slice B1 gaps'.length l1, .slice B2 dups'.length l2, .slice B3 items'.length l3, .string text']] w fun e w' => e = .returned (.bool false) ∧ Below w.heap.size w w' := by
  go_enter Tryz.func38, Tryz.ntmps38
  go_wp2_with fail
  go_ret
  exact ⟨rfl, (HB0 _ _).out.2.2⟩
set_option maxHeartbeats 8000000 in
theorem same_no2 (ty fl ty' fl' : Int) (tsn tag win ppid st ssn outs ins tsn' tag' win' ppid' st' ssn' outs' ins' : Nat) (A1 A2 A3 B1 B2 B3 : Option Addr) (k1 k2 k3 l1 l2 l3 : Nat) (gaps gaps' : List (Nat × Nat)) (dups dups' : List Nat) (items items' : List Item) (text text' : ByteArray) (w : World) (HB0 : ∀ CA CB, Hid (SmS w CA CB ((w.alloc (.cells CA 74)).alloc (.cells CB 74)))) (HCS : Hid ((Tryz.prog.info? 74).map (·.size) = some 14)) (b1 : (ty != ty') = false) (b2 : (fl != fl') = true)
    (HONE : Hid (((#[.int .i64 ty, .int .i64 fl, .int .u32 (tsn : Int), .int .u32 (tag : Int), .int .u32 (win : Int), .int .u32 (ppid : Int), .int .u16 (st : Int), .int .u16 (ssn : Int), .int .u16 (outs : Int), .int .u16 (ins : Int), .slice A1 gaps.length k1, .slice A2 dups.length k2, .slice A3 items.length k3, .string text] : Array Value)).all (·.oneCell') = true)) (HONE' : Hid (((#[.int .i64 ty', .int .i64 fl', .int .u32 (tsn' : Int), .int .u32 (tag' : Int), .int .u32 (win' : Int), .int .u32 (ppid' : Int), .int .u16 (st' : Int), .int .u16 (ssn' : Int), .int .u16 (outs' : Int), .int .u16 (ins' : Int), .slice B1 gaps'.length l1, .slice B2 dups'.length l2, .slice B3 items'.length l3, .string text'] : Array Value)).all (·.oneCell') = true)) :
    Calls Tryz.prog 38 #[.agg #[.int .i64 ty, .int .i64 fl, .int .u32 (tsn : Int), .int .u32 (tag : Int), .int .u32 (win : Int), .int .u32 (ppid : Int), .int .u16 (st : Int), .int .u16 (ssn : Int), .int .u16 (outs : Int), .int .u16 (ins : Int), .slice A1 gaps.length k1, .slice A2 dups.length k2, .slice A3 items.length k3, .string text], .agg #[.int .i64 ty', .int .i64 fl', .int .u32 (tsn' : Int), .int .u32 (tag' : Int), .int .u32 (win' : Int), .int .u32 (ppid' : Int), .int .u16 (st' : Int), .int .u16 (ssn' : Int), .int .u16 (outs' : Int), .int .u16 (ins' : Int), .slice B1 gaps'.length l1, .slice B2 dups'.length l2, .slice B3 items'.length l3, .string text']] w fun e w' => e = .returned (.bool false) ∧ Below w.heap.size w w' := by
  go_enter Tryz.func38, Tryz.ntmps38
  go_wp2_with fail
  go_ret
  exact ⟨rfl, (HB0 _ _).out.2.2⟩
set_option maxHeartbeats 8000000 in
theorem same_no3 (ty fl ty' fl' : Int) (tsn tag win ppid st ssn outs ins tsn' tag' win' ppid' st' ssn' outs' ins' : Nat) (A1 A2 A3 B1 B2 B3 : Option Addr) (k1 k2 k3 l1 l2 l3 : Nat) (gaps gaps' : List (Nat × Nat)) (dups dups' : List Nat) (items items' : List Item) (text text' : ByteArray) (w : World) (HB0 : ∀ CA CB, Hid (SmS w CA CB ((w.alloc (.cells CA 74)).alloc (.cells CB 74)))) (HCS : Hid ((Tryz.prog.info? 74).map (·.size) = some 14)) (b1 : (ty != ty') = false) (b2 : (fl != fl') = false) (b3 : ((tsn : Int) != (tsn' : Int)) = true)
    (HONE : Hid (((#[.int .i64 ty, .int .i64 fl, .int .u32 (tsn : Int), .int .u32 (tag : Int), .int .u32 (win : Int), .int .u32 (ppid : Int), .int .u16 (st : Int), .int .u16 (ssn : Int), .int .u16 (outs : Int), .int .u16 (ins : Int), .slice A1 gaps.length k1, .slice A2 dups.length k2, .slice A3 items.length k3, .string text] : Array Value)).all (·.oneCell') = true)) (HONE' : Hid (((#[.int .i64 ty', .int .i64 fl', .int .u32 (tsn' : Int), .int .u32 (tag' : Int), .int .u32 (win' : Int), .int .u32 (ppid' : Int), .int .u16 (st' : Int), .int .u16 (ssn' : Int), .int .u16 (outs' : Int), .int .u16 (ins' : Int), .slice B1 gaps'.length l1, .slice B2 dups'.length l2, .slice B3 items'.length l3, .string text'] : Array Value)).all (·.oneCell') = true)) :
    Calls Tryz.prog 38 #[.agg #[.int .i64 ty, .int .i64 fl, .int .u32 (tsn : Int), .int .u32 (tag : Int), .int .u32 (win : Int), .int .u32 (ppid : Int), .int .u16 (st : Int), .int .u16 (ssn : Int), .int .u16 (outs : Int), .int .u16 (ins : Int), .slice A1 gaps.length k1, .slice A2 dups.length k2, .slice A3 items.length k3, .string text], .agg #[.int .i64 ty', .int .i64 fl', .int .u32 (tsn' : Int), .int .u32 (tag' : Int), .int .u32 (win' : Int), .int .u32 (ppid' : Int), .int .u16 (st' : Int), .int .u16 (ssn' : Int), .int .u16 (outs' : Int), .int .u16 (ins' : Int), .slice B1 gaps'.length l1, .slice B2 dups'.length l2, .slice B3 items'.length l3, .string text']] w fun e w' => e = .returned (.bool false) ∧ Below w.heap.size w w' := by
  go_enter Tryz.func38, Tryz.ntmps38
  go_wp2_with fail
  go_ret
  exact ⟨rfl, (HB0 _ _).out.2.2⟩
set_option maxHeartbeats 8000000 in
theorem same_no4 (ty fl ty' fl' : Int) (tsn tag win ppid st ssn outs ins tsn' tag' win' ppid' st' ssn' outs' ins' : Nat) (A1 A2 A3 B1 B2 B3 : Option Addr) (k1 k2 k3 l1 l2 l3 : Nat) (gaps gaps' : List (Nat × Nat)) (dups dups' : List Nat) (items items' : List Item) (text text' : ByteArray) (w : World) (HB0 : ∀ CA CB, Hid (SmS w CA CB ((w.alloc (.cells CA 74)).alloc (.cells CB 74)))) (HCS : Hid ((Tryz.prog.info? 74).map (·.size) = some 14)) (b1 : (ty != ty') = false) (b2 : (fl != fl') = false) (b3 : ((tsn : Int) != (tsn' : Int)) = false) (b4 : ((tag : Int) != (tag' : Int)) = true)
    (HONE : Hid (((#[.int .i64 ty, .int .i64 fl, .int .u32 (tsn : Int), .int .u32 (tag : Int), .int .u32 (win : Int), .int .u32 (ppid : Int), .int .u16 (st : Int), .int .u16 (ssn : Int), .int .u16 (outs : Int), .int .u16 (ins : Int), .slice A1 gaps.length k1, .slice A2 dups.length k2, .slice A3 items.length k3, .string text] : Array Value)).all (·.oneCell') = true)) (HONE' : Hid (((#[.int .i64 ty', .int .i64 fl', .int .u32 (tsn' : Int), .int .u32 (tag' : Int), .int .u32 (win' : Int), .int .u32 (ppid' : Int), .int .u16 (st' : Int), .int .u16 (ssn' : Int), .int .u16 (outs' : Int), .int .u16 (ins' : Int), .slice B1 gaps'.length l1, .slice B2 dups'.length l2, .slice B3 items'.length l3, .string text'] : Array Value)).all (·.oneCell') = true)) :
    Calls Tryz.prog 38 #[.agg #[.int .i64 ty, .int .i64 fl, .int .u32 (tsn : Int), .int .u32 (tag : Int), .int .u32 (win : Int), .int .u32 (ppid : Int), .int .u16 (st : Int), .int .u16 (ssn : Int), .int .u16 (outs : Int), .int .u16 (ins : Int), .slice A1 gaps.length k1, .slice A2 dups.length k2, .slice A3 items.length k3, .string text], .agg #[.int .i64 ty', .int .i64 fl', .int .u32 (tsn' : Int), .int .u32 (tag' : Int), .int .u32 (win' : Int), .int .u32 (ppid' : Int), .int .u16 (st' : Int), .int .u16 (ssn' : Int), .int .u16 (outs' : Int), .int .u16 (ins' : Int), .slice B1 gaps'.length l1, .slice B2 dups'.length l2, .slice B3 items'.length l3, .string text']] w fun e w' => e = .returned (.bool false) ∧ Below w.heap.size w w' := by
  go_enter Tryz.func38, Tryz.ntmps38
  go_wp2_with fail
  go_ret
  exact ⟨rfl, (HB0 _ _).out.2.2⟩
set_option maxHeartbeats 8000000 in
theorem same_no5 (ty fl ty' fl' : Int) (tsn tag win ppid st ssn outs ins tsn' tag' win' ppid' st' ssn' outs' ins' : Nat) (A1 A2 A3 B1 B2 B3 : Option Addr) (k1 k2 k3 l1 l2 l3 : Nat) (gaps gaps' : List (Nat × Nat)) (dups dups' : List Nat) (items items' : List Item) (text text' : ByteArray) (w : World) (HB0 : ∀ CA CB, Hid (SmS w CA CB ((w.alloc (.cells CA 74)).alloc (.cells CB 74)))) (HCS : Hid ((Tryz.prog.info? 74).map (·.size) = some 14)) (b1 : (ty != ty') = false) (b2 : (fl != fl') = false) (b3 : ((tsn : Int) != (tsn' : Int)) = false) (b4 : ((tag : Int) != (tag' : Int)) = false) (b5 : ((win : Int) != (win' : Int)) = true)
    (HONE : Hid (((#[.int .i64 ty, .int .i64 fl, .int .u32 (tsn : Int), .int .u32 (tag : Int), .int .u32 (win : Int), .int .u32 (ppid : Int), .int .u16 (st : Int), .int .u16 (ssn : Int), .int .u16 (outs : Int), .int .u16 (ins : Int), .slice A1 gaps.length k1, .slice A2 dups.length k2, .slice A3 items.length k3, .string text] : Array Value)).all (·.oneCell') = true)) (HONE' : Hid (((#[.int .i64 ty', .int .i64 fl', .int .u32 (tsn' : Int), .int .u32 (tag' : Int), .int .u32 (win' : Int), .int .u32 (ppid' : Int), .int .u16 (st' : Int), .int .u16 (ssn' : Int), .int .u16 (outs' : Int), .int .u16 (ins' : Int), .slice B1 gaps'.length l1, .slice B2 dups'.length l2, .slice B3 items'.length l3, .string text'] : Array Value)).all (·.oneCell') = true)) :
    Calls Tryz.prog 38 #[.agg #[.int .i64 ty, .int .i64 fl, .int .u32 (tsn : Int), .int .u32 (tag : Int), .int .u32 (win : Int), .int .u32 (ppid : Int), .int .u16 (st : Int), .int .u16 (ssn : Int), .int .u16 (outs : Int), .int .u16 (ins : Int), .slice A1 gaps.length k1, .slice A2 dups.length k2, .slice A3 items.length k3, .string text], .agg #[.int .i64 ty', .int .i64 fl', .int .u32 (tsn' : Int), .int .u32 (tag' : Int), .int .u32 (win' : Int), .int .u32 (ppid' : Int), .int .u16 (st' : Int), .int .u16 (ssn' : Int), .int .u16 (outs' : Int), .int .u16 (ins' : Int), .slice B1 gaps'.length l1, .slice B2 dups'.length l2, .slice B3 items'.length l3, .string text']] w fun e w' => e = .returned (.bool false) ∧ Below w.heap.size w w' := by
  go_enter Tryz.func38, Tryz.ntmps38
  go_wp2_with fail
  go_ret
  exact ⟨rfl, (HB0 _ _).out.2.2⟩
set_option maxHeartbeats 8000000 in
theorem same_no6 (ty fl ty' fl' : Int) (tsn tag win ppid st ssn outs ins tsn' tag' win' ppid' st' ssn' outs' ins' : Nat) (A1 A2 A3 B1 B2 B3 : Option Addr) (k1 k2 k3 l1 l2 l3 : Nat) (gaps gaps' : List (Nat × Nat)) (dups dups' : List Nat) (items items' : List Item) (text text' : ByteArray) (w : World) (HB0 : ∀ CA CB, Hid (SmS w CA CB ((w.alloc (.cells CA 74)).alloc (.cells CB 74)))) (HCS : Hid ((Tryz.prog.info? 74).map (·.size) = some 14)) (b1 : (ty != ty') = false) (b2 : (fl != fl') = false) (b3 : ((tsn : Int) != (tsn' : Int)) = false) (b4 : ((tag : Int) != (tag' : Int)) = false) (b5 : ((win : Int) != (win' : Int)) = false) (b6 : ((ppid : Int) != (ppid' : Int)) = true)
    (HONE : Hid (((#[.int .i64 ty, .int .i64 fl, .int .u32 (tsn : Int), .int .u32 (tag : Int), .int .u32 (win : Int), .int .u32 (ppid : Int), .int .u16 (st : Int), .int .u16 (ssn : Int), .int .u16 (outs : Int), .int .u16 (ins : Int), .slice A1 gaps.length k1, .slice A2 dups.length k2, .slice A3 items.length k3, .string text] : Array Value)).all (·.oneCell') = true)) (HONE' : Hid (((#[.int .i64 ty', .int .i64 fl', .int .u32 (tsn' : Int), .int .u32 (tag' : Int), .int .u32 (win' : Int), .int .u32 (ppid' : Int), .int .u16 (st' : Int), .int .u16 (ssn' : Int), .int .u16 (outs' : Int), .int .u16 (ins' : Int), .slice B1 gaps'.length l1, .slice B2 dups'.length l2, .slice B3 items'.length l3, .string text'] : Array Value)).all (·.oneCell') = true)) :
    Calls Tryz.prog 38 #[.agg #[.int .i64 ty, .int .i64 fl, .int .u32 (tsn : Int), .int .u32 (tag : Int), .int .u32 (win : Int), .int .u32 (ppid : Int), .int .u16 (st : Int), .int .u16 (ssn : Int), .int .u16 (outs : Int), .int .u16 (ins : Int), .slice A1 gaps.length k1, .slice A2 dups.length k2, .slice A3 items.length k3, .string text], .agg #[.int .i64 ty', .int .i64 fl', .int .u32 (tsn' : Int), .int .u32 (tag' : Int), .int .u32 (win' : Int), .int .u32 (ppid' : Int), .int .u16 (st' : Int), .int .u16 (ssn' : Int), .int .u16 (outs' : Int), .int .u16 (ins' : Int), .slice B1 gaps'.length l1, .slice B2 dups'.length l2, .slice B3 items'.length l3, .string text']] w fun e w' => e = .returned (.bool false) ∧ Below w.heap.size w w' := by
  go_enter Tryz.func38, Tryz.ntmps38
  go_wp2_with fail
  go_ret
  exact ⟨rfl, (HB0 _ _).out.2.2⟩
end Go.Proofs.YtlbaockipeojhaaGreat
end
section
namespace Go.Proofs.YtlbaockipeojhaaGreat
open Go.RowKit
set_option linter.unusedVariables false
set_option linter.unusedSimpArgs false
set_option maxRecDepth 100000
set_option maxHeartbeats 8000000 in
theorem same_no7 (ty fl ty' fl' : Int) (tsn tag win ppid st ssn outs ins tsn' tag' win' ppid' st' ssn' outs' ins' : Nat) (A1 A2 A3 B1 B2 B3 : Option Addr) (k1 k2 k3 l1 l2 l3 : Nat) (gaps gaps' : List (Nat × Nat)) (dups dups' : List Nat) (items items' : List Item) (text text' : ByteArray) (w : World) (HB0 : ∀ CA CB, Hid (SmS w CA CB ((w.alloc (.cells CA 74)).alloc (.cells CB 74)))) (HCS : Hid ((Tryz.prog.info? 74).map (·.size) = some 14)) (b1 : (ty != ty') = false) (b2 : (fl != fl') = false) (b3 : ((tsn : Int) != (tsn' : Int)) = false) (b4 : ((tag : Int) != (tag' : Int)) = false) (b5 : ((win : Int) != (win' : Int)) = false) (b6 : ((ppid : Int) != (ppid' : Int)) = false) (b7 : ((st : Int) != (st' : Int)) = true)
    (HONE : Hid (((#[.int .i64 ty, .int .i64 fl, .int .u32 (tsn : Int), .int .u32 (tag : Int), .int .u32 (win : Int), .int .u32 (ppid : Int), .int .u16 (st : Int), .int .u16 (ssn : Int), .int .u16 (outs : Int), .int .u16 (ins : Int), .slice A1 gaps.length k1, .slice A2 dups.length k2, .slice A3 items.length k3, .string text] : Array Value)).all (·.oneCell') = true)) (HONE' : Hid (((#[.int .i64 ty', .int .i64 fl', .int .u32 (tsn' : Int), .int .u32 (tag' : Int), .int .u32 (win' : Int), .int .u32 (ppid' : Int), .int .u16 (st' : Int), .int .u16 (ssn' : Int), .int .u16 (outs' : Int), .int .u16 (ins' : Int), .slice B1 gaps'.length l1, .slice B2 dups'.length l2, .slice B3 items'.length l3, .string text'] : Array Value)).all (·.oneCell') = true)) :
    Calls Tryz.prog 38 #[.agg #[.int .i64 ty, .int .i64 fl, .int .u32 (tsn : Int), .int .u32 (tag : Int), .int .u32 (win : Int), .int .u32 (ppid : Int), .int .u16 (st : Int), .int .u16 (ssn : Int), .int .u16 (outs : Int), .int .u16 (ins : Int), .slice A1 gaps.length k1, .slice A2 dups.length k2, .slice A3 items.length k3, .string text], .agg #[.int .i64 ty', .int .i64 fl', .int .u32 (tsn' : Int), .int .u32 (tag' : Int), .int .u32 (win' : Int), .int .u32 (ppid' : Int), .int .u16 (st' : Int), .int .u16 (ssn' : Int), .int .u16 (outs' : Int), .int .u16 (ins' : Int), .slice B1 gaps'.length l1, .slice B2 dups'.length l2, .slice B3 items'.length l3, .string text']] w fun e w' => e = .returned (.bool false) ∧ Below w.heap.size w w' := by
  go_enter Tryz.func38, Tryz.ntmps38
  go_wp2_with fail
  go_ret
  exact ⟨rfl, (HB0 _ _).out.2.2⟩
set_option maxHeartbeats 8000000 in
theorem same_no8 (ty fl ty' fl' : Int) (tsn tag win ppid st ssn outs ins tsn' tag' win' ppid' st' ssn' outs' ins' : Nat) (A1 A2 A3 B1 B2 B3 : Option Addr) (k1 k2 k3 l1 l2 l3 : Nat) (gaps gaps' : List (Nat × Nat)) (dups dups' : List Nat) (items items' : List Item) (text text' : ByteArray) (w : World) (HB0 : ∀ CA CB, Hid (SmS w CA CB ((w.alloc (.cells CA 74)).alloc (.cells CB 74)))) (HCS : Hid ((Tryz.prog.info? 74).map (·.size) = some 14)) (b1 : (ty != ty') = false) (b2 : (fl != fl') = false) (b3 : ((tsn : Int) != (tsn' : Int)) = false) (b4 : ((tag : Int) != (tag' : Int)) = false) (b5 : ((win : Int) != (win' : Int)) = false) (b6 : ((ppid : Int) != (ppid' : Int)) = false) (b7 : ((st : Int) != (st' : Int)) = false) (b8 : ((ssn : Int) != (ssn' : Int)) = true)
    (HONE : Hid (((#[.int .i64 ty, .int .i64 fl, .int .u32 (tsn : Int), .int .u32 (tag : Int), .int .u32 (win : Int), .int .u32 (ppid : Int), .int .u16 (st : Int), .int .u16 (ssn : Int), .int .u16 (outs : Int), .int .u16 (ins : Int), .slice A1 gaps.length k1, .slice A2 dups.length k2, .slice A3 items.length k3, .string text] : Array Value)).all (·.oneCell') = true)) (HONE' : Hid (((#[.int .i64 ty', .int .i64 fl', .int .u32 (tsn' : Int), .int .u32 (tag' : Int), .int .u32 (win' : Int), .int .u32 (ppid' : Int), .int .u16 (st' : Int), .int .u16 (ssn' : Int), .int .u16 (outs' : Int), .int .u16 (ins' : Int), .slice B1 gaps'.length l1, .slice B2 dups'.length l2, .slice B3 items'.length l3, .string text'] : Array Value)).all (·.oneCell') = true)) :
    Calls Tryz.prog 38 #[.agg #[.int .i64 ty, .int .i64 fl, .int .u32 (tsn : Int), .int .u32 (tag : Int), .int .u32 (win : Int), .int .u32 (ppid : Int), .int .u16 (st : Int), .int .u16 (ssn : Int), .int .u16 (outs : Int), .int .u16 (ins : Int), .slice A1 gaps.length k1, .slice A2 dups.length k2, .slice A3 items.length k3, .string text], .agg #[.int .i64 ty', .int .i64 fl', .int .u32 (tsn' : Int), .int .u32 (tag' : Int), .int .u32 (win' : Int), .int .u32 (ppid' : Int), .int .u16 (st' : Int), .int .u16 (ssn' : Int), .int .u16 (outs' : Int), .int .u16 (ins' : Int), .slice B1 gaps'.length l1, .slice B2 dups'.length l2, .slice B3 items'.length l3, .string text']] w fun e w' => e = .returned (.bool false) ∧ Below w.heap.size w w' := by
  go_enter Tryz.func38, Tryz.ntmps38
  go_wp2_with fail
  go_ret
  exact ⟨rfl, (HB0 _ _).out.2.2⟩
set_option maxHeartbeats 8000000 in
theorem same_no9 (ty fl ty' fl' : Int) (tsn tag win ppid st ssn outs ins tsn' tag' win' ppid' st' ssn' outs' ins' : Nat) (A1 A2 A3 B1 B2 B3 : Option Addr) (k1 k2 k3 l1 l2 l3 : Nat) (gaps gaps' : List (Nat × Nat)) (dups dups' : List Nat) (items items' : List Item) (text text' : ByteArray) (w : World) (HB0 : ∀ CA CB, Hid (SmS w CA CB ((w.alloc (.cells CA 74)).alloc (.cells CB 74)))) (HCS : Hid ((Tryz.prog.info? 74).map (·.size) = some 14)) (b1 : (ty != ty') = false) (b2 : (fl != fl') = false) (b3 : ((tsn : Int) != (tsn' : Int)) = false) (b4 : ((tag : Int) != (tag' : Int)) = false) (b5 : ((win : Int) != (win' : Int)) = false) (b6 : ((ppid : Int) != (ppid' : Int)) = false) (b7 : ((st : Int) != (st' : Int)) = false) (b8 : ((ssn : Int) != (ssn' : Int)) = false) (b9 : ((outs : Int) != (outs' : Int)) = true)
    (HONE : Hid (((#[.int .i64 ty, .int .i64 fl, .int .u32 (tsn : Int), .int .u32 (tag : Int), .int .u32 (win : Int), .int .u32 (ppid : Int), .int .u16 (st : Int), .int .u16 (ssn : Int), .int .u16 (outs : Int), .int .u16 (ins : Int), .slice A1 gaps.length k1, .slice A2 dups.length k2, .slice A3 items.length k3, .string text] : Array Value)).all (·.oneCell') = true)) (HONE' : Hid (((#[.int .i64 ty', .int .i64 fl', .int .u32 (tsn' : Int), .int .u32 (tag' : Int), .int .u32 (win' : Int), .int .u32 (ppid' : Int), .int .u16 (st' : Int), .int .u16 (ssn' : Int), .int .u16 (outs' : Int), .int .u16 (ins' : Int), .slice B1 gaps'.length l1, .slice B2 dups'.length l2, .slice B3 items'.length l3, .string text'] : Array Value)).all (·.oneCell') = true)) :
    Calls Tryz.prog 38 #[.agg #[.int .i64 ty, .int .i64 fl, .int .u32 (tsn : Int), .int .u32 (tag : Int), .int .u32 (win : Int), .int .u32 (ppid : Int), .int .u16 (st : Int), .int .u16 (ssn : Int), .int .u16 (outs : Int), .int .u16 (ins : Int), .slice A1 gaps.length k1, .slice A2 dups.length k2, .slice A3 items.length k3, .string text], .agg #[.int .i64 ty', .int .i64 fl', .int .u32 (tsn' : Int), .int .u32 (tag' : Int), .int .u32 (win' : Int), .int .u32 (ppid' : Int), .int .u16 (st' : Int), .int .u16 (ssn' : Int), .int .u16 (outs' : Int), .int .u16 (ins' : Int), .slice B1 gaps'.length l1, .slice B2 dups'.length l2, .slice B3 items'.length l3, .string text']] w fun e w' => e = .returned (.bool false) ∧ Below w.heap.size w w' := by
  go_enter Tryz.func38, Tryz.ntmps38
  go_wp2_with fail
  go_ret
  exact ⟨rfl, (HB0 _ _).out.2.2⟩
set_option maxHeartbeats 8000000 in
theorem same_no10 (ty fl ty' fl' : Int) (tsn tag win ppid st ssn outs ins tsn' tag' win' ppid' st' ssn' outs' ins' : Nat) (A1 A2 A3 B1 B2 B3 : Option Addr) (k1 k2 k3 l1 l2 l3 : Nat) (gaps gaps' : List (Nat × Nat)) (dups dups' : List Nat) (items items' : List Item) (text text' : ByteArray) (w : World) (HB0 : ∀ CA CB, Hid (SmS w CA CB ((w.alloc (.cells CA 74)).alloc (.cells CB 74)))) (HCS : Hid ((Tryz.prog.info? 74).map (·.size) = some 14)) (b1 : (ty != ty') = false) (b2 : (fl != fl') = false) (b3 : ((tsn : Int) != (tsn' : Int)) = false) (b4 : ((tag : Int) != (tag' : Int)) = false) (b5 : ((win : Int) != (win' : Int)) = false) (b6 : ((ppid : Int) != (ppid' : Int)) = false) (b7 : ((st : Int) != (st' : Int)) = false) (b8 : ((ssn : Int) != (ssn' : Int)) = false) (b9 : ((outs : Int) != (outs' : Int)) = false) (b10 : ((ins : Int) != (ins' : Int)) = true)
    (HONE : Hid (((#[.int .i64 ty, .int .i64 fl, .int .u32 (tsn : Int), .int .u32 (tag : Int), .int .u32 (win : Int), .int .u32 (ppid : Int), .int .u16 (st : Int), .int .u16 (ssn : Int), .int .u16 (outs : Int), .int .u16 (ins : Int), .slice A1 gaps.length k1, .slice A2 dups.length k2, .slice A3 items.length k3, .string text] : Array Value)).all (·.oneCell') = true)) (HONE' : Hid (((#[.int .i64 ty', .int .i64 fl', .int .u32 (tsn' : Int), .int .u32 (tag' : Int), .int .u32 (win' : Int), .int .u32 (ppid' : Int), .int .u16 (st' : Int), .int .u16 (ssn' : Int), .int .u16 (outs' : Int), .int .u16 (ins' : Int), .slice B1 gaps'.length l1, .slice B2 dups'.length l2, .slice B3 items'.length l3, .string text'] : Array Value)).all (·.oneCell') = true)) :
    Calls Tryz.prog 38 #[.agg #[.int .i64 ty, .int .i64 fl, .int .u32 (tsn : Int), .int .u32 (tag : Int), .int .u32 (win : Int), .int .u32 (ppid : Int), .int .u16 (st : Int), .int .u16 (ssn : Int), .int .u16 (outs : Int), .int .u16 (ins : Int), .slice A1 gaps.length k1, .slice A2 dups.length k2, .slice A3 items.length k3, .string text], .agg #[.int .i64 ty', .int .i64 fl', .int .u32 (tsn' : Int), .int .u32 (tag' : Int), .int .u32 (win' : Int), .int .u32 (ppid' : Int), .int .u16 (st' : Int), .int .u16 (ssn' : Int), .int .u16 (outs' : Int), .int .u16 (ins' : Int), .slice B1 gaps'.length l1, .slice B2 dups'.length l2, .slice B3 items'.length l3, .string text']] w fun e w' => e = .returned (.bool false) ∧ Below w.heap.size w w' := by
  go_enter Tryz.func38, Tryz.ntmps38
  go_wp2_with fail
  go_ret
  exact ⟨rfl, (HB0 _ _).out.2.2⟩
set_option maxHeartbeats 8000000 in
theorem same_no11 (ty fl ty' fl' : Int) (tsn tag win ppid st ssn outs ins tsn' tag' win' ppid' st' ssn' outs' ins' : Nat) (A1 A2 A3 B1 B2 B3 : Option Addr) (k1 k2 k3 l1 l2 l3 : Nat) (gaps gaps' : List (Nat × Nat)) (dups dups' : List Nat) (items items' : List Item) (text text' : ByteArray) (w : World) (HB0 : ∀ CA CB, Hid (SmS w CA CB ((w.alloc (.cells CA 74)).alloc (.cells CB 74)))) (HCS : Hid ((Tryz.prog.info? 74).map (·.size) = some 14)) (b1 : (ty != ty') = false) (b2 : (fl != fl') = false) (b3 : ((tsn : Int) != (tsn' : Int)) = false) (b4 : ((tag : Int) != (tag' : Int)) = false) (b5 : ((win : Int) != (win' : Int)) = false) (b6 : ((ppid : Int) != (ppid' : Int)) = false) (b7 : ((st : Int) != (st' : Int)) = false) (b8 : ((ssn : Int) != (ssn' : Int)) = false) (b9 : ((outs : Int) != (outs' : Int)) = false) (b10 : ((ins : Int) != (ins' : Int)) = false) (b11 : (!text.toList == text'.toList) = true)
    (HONE : Hid (((#[.int .i64 ty, .int .i64 fl, .int .u32 (tsn : Int), .int .u32 (tag : Int), .int .u32 (win : Int), .int .u32 (ppid : Int), .int .u16 (st : Int), .int .u16 (ssn : Int), .int .u16 (outs : Int), .int .u16 (ins : Int), .slice A1 gaps.length k1, .slice A2 dups.length k2, .slice A3 items.length k3, .string text] : Array Value)).all (·.oneCell') = true)) (HONE' : Hid (((#[.int .i64 ty', .int .i64 fl', .int .u32 (tsn' : Int), .int .u32 (tag' : Int), .int .u32 (win' : Int), .int .u32 (ppid' : Int), .int .u16 (st' : Int), .int .u16 (ssn' : Int), .int .u16 (outs' : Int), .int .u16 (ins' : Int), .slice B1 gaps'.length l1, .slice B2 dups'.length l2, .slice B3 items'.length l3, .string text'] : Array Value)).all (·.oneCell') = true)) :
    Calls Tryz.prog 38 #[.agg #[.int .i64 ty, .int .i64 fl, .int .u32 (tsn : Int), .int .u32 (tag : Int), .int .u32 (win : Int), .int .u32 (ppid : Int), .int .u16 (st : Int), .int .u16 (ssn : Int), .int .u16 (outs : Int), .int .u16 (ins : Int), .slice A1 gaps.length k1, .slice A2 dups.length k2, .slice A3 items.length k3, .string text], .agg #[.int .i64 ty', .int .i64 fl', .int .u32 (tsn' : Int), .int .u32 (tag' : Int), .int .u32 (win' : Int), .int .u32 (ppid' : Int), .int .u16 (st' : Int), .int .u16 (ssn' : Int), .int .u16 (outs' : Int), .int .u16 (ins' : Int), .slice B1 gaps'.length l1, .slice B2 dups'.length l2, .slice B3 items'.length l3, .string text']] w fun e w' => e = .returned (.bool false) ∧ Below w.heap.size w w' := by
  go_enter Tryz.func38, Tryz.ntmps38
  go_wp2_with fail
  go_ret
  exact ⟨rfl, (HB0 _ _).out.2.2⟩
set_option maxHeartbeats 8000000 in
theorem same_no12 (ty fl ty' fl' : Int) (tsn tag win ppid st ssn outs ins tsn' tag' win' ppid' st' ssn' outs' ins' : Nat) (A1 A2 A3 B1 B2 B3 : Option Addr) (k1 k2 k3 l1 l2 l3 : Nat) (gaps gaps' : List (Nat × Nat)) (dups dups' : List Nat) (items items' : List Item) (text text' : ByteArray) (w : World) (HB0 : ∀ CA CB, Hid (SmS w CA CB ((w.alloc (.cells CA 74)).alloc (.cells CB 74)))) (HCS : Hid ((Tryz.prog.info? 74).map (·.size) = some 14)) (b1 : (ty != ty') = false) (b2 : (fl != fl') = false) (b3 : ((tsn : Int) != (tsn' : Int)) = false) (b4 : ((tag : Int) != (tag' : Int)) = false) (b5 : ((win : Int) != (win' : Int)) = false) (b6 : ((ppid : Int) != (ppid' : Int)) = false) (b7 : ((st : Int) != (st' : Int)) = false) (b8 : ((ssn : Int) != (ssn' : Int)) = false) (b9 : ((outs : Int) != (outs' : Int)) = false) (b10 : ((ins : Int) != (ins' : Int)) = false) (b11 : (!text.toList == text'.toList) = false) (b12 : ((gaps.length : Int) != (gaps'.length : Int)) = true)
    (HONE : Hid (((#[.int .i64 ty, .int .i64 fl, .int .u32 (tsn : Int), .int .u32 (tag : Int), .int .u32 (win : Int), .int .u32 (ppid : Int), .int .u16 (st : Int), .int .u16 (ssn : Int), .int .u16 (outs : Int), .int .u16 (ins : Int), .slice A1 gaps.length k1, .slice A2 dups.length k2, .slice A3 items.length k3, .string text] : Array Value)).all (·.oneCell') = true)) (HONE' : Hid (((#[.int .i64 ty', .int .i64 fl', .int .u32 (tsn' : Int), .int .u32 (tag' : Int), .int .u32 (win' : Int), .int .u32 (ppid' : Int), .int .u16 (st' : Int), .int .u16 (ssn' : Int), .int .u16 (outs' : Int), .int .u16 (ins' : Int), .slice B1 gaps'.length l1, .slice B2 dups'.length l2, .slice B3 items'.length l3, .string text'] : Array Value)).all (·.oneCell') = true)) :
    Calls Tryz.prog 38 #[.agg #[.int .i64 ty, .int .i64 fl, .int .u32 (tsn : Int), .int .u32 (tag : Int), .int .u32 (win : Int), .int .u32 (ppid : Int), .int .u16 (st : Int), .int .u16 (ssn : Int), .int .u16 (outs : Int), .int .u16 (ins : Int), .slice A1 gaps.length k1, .slice A2 dups.length k2, .slice A3 items.length k3, .string text], .agg #[.int .i64 ty', .int .i64 fl', .int .u32 (tsn' : Int), .int .u32 (tag' : Int), .int .u32 (win' : Int), .int .u32 (ppid' : Int), .int .u16 (st' : Int), .int .u16 (ssn' : Int), .int .u16 (outs' : Int), .int .u16 (ins' : Int), .slice B1 gaps'.length l1, .slice B2 dups'.length l2, .slice B3 items'.length l3, .string text']] w fun e w' => e = .returned (.bool false) ∧ Below w.heap.size w w' := by
  go_enter Tryz.func38, Tryz.ntmps38
  go_wp2_with fail
  go_ret
  exact ⟨rfl, (HB0 _ _).out.2.2⟩
set_option maxHeartbeats 8000000 in
theorem same_no13 (ty fl ty' fl' : Int) (tsn tag win ppid st ssn outs ins tsn' tag' win' ppid' st' ssn' outs' ins' : Nat) (A1 A2 A3 B1 B2 B3 : Option Addr) (k1 k2 k3 l1 l2 l3 : Nat) (gaps gaps' : List (Nat × Nat)) (dups dups' : List Nat) (items items' : List Item) (text text' : ByteArray) (w : World) (HB0 : ∀ CA CB, Hid (SmS w CA CB ((w.alloc (.cells CA 74)).alloc (.cells CB 74)))) (HCS : Hid ((Tryz.prog.info? 74).map (·.size) = some 14)) (b1 : (ty != ty') = false) (b2 : (fl != fl') = false) (b3 : ((tsn : Int) != (tsn' : Int)) = false) (b4 : ((tag : Int) != (tag' : Int)) = false) (b5 : ((win : Int) != (win' : Int)) = false) (b6 : ((ppid : Int) != (ppid' : Int)) = false) (b7 : ((st : Int) != (st' : Int)) = false) (b8 : ((ssn : Int) != (ssn' : Int)) = false) (b9 : ((outs : Int) != (outs' : Int)) = false) (b10 : ((ins : Int) != (ins' : Int)) = false) (b11 : (!text.toList == text'.toList) = false) (b12 : ((gaps.length : Int) != (gaps'.length : Int)) = false) (b13 : ((dups.length : Int) != (dups'.length : Int)) = true)
    (HONE : Hid (((#[.int .i64 ty, .int .i64 fl, .int .u32 (tsn : Int), .int .u32 (tag : Int), .int .u32 (win : Int), .int .u32 (ppid : Int), .int .u16 (st : Int), .int .u16 (ssn : Int), .int .u16 (outs : Int), .int .u16 (ins : Int), .slice A1 gaps.length k1, .slice A2 dups.length k2, .slice A3 items.length k3, .string text] : Array Value)).all (·.oneCell') = true)) (HONE' : Hid (((#[.int .i64 ty', .int .i64 fl', .int .u32 (tsn' : Int), .int .u32 (tag' : Int), .int .u32 (win' : Int), .int .u32 (ppid' : Int), .int .u16 (st' : Int), .int .u16 (ssn' : Int), .int .u16 (outs' : Int), .int .u16 (ins' : Int), .slice B1 gaps'.length l1, .slice B2 dups'.length l2, .slice B3 items'.length l3, .string text'] : Array Value)).all (·.oneCell') = true)) :
    Calls Tryz.prog 38 #[.agg #[.int .i64 ty, .int .i64 fl, .int .u32 (tsn : Int), .int .u32 (tag : Int), .int .u32 (win : Int), .int .u32 (ppid : Int), .int .u16 (st : Int), .int .u16 (ssn : Int), .int .u16 (outs : Int), .int .u16 (ins : Int), .slice A1 gaps.length k1, .slice A2 dups.length k2, .slice A3 items.length k3, .string text], .agg #[.int .i64 ty', .int .i64 fl', .int .u32 (tsn' : Int), .int .u32 (tag' : Int), .int .u32 (win' : Int), .int .u32 (ppid' : Int), .int .u16 (st' : Int), .int .u16 (ssn' : Int), .int .u16 (outs' : Int), .int .u16 (ins' : Int), .slice B1 gaps'.length l1, .slice B2 dups'.length l2, .slice B3 items'.length l3, .string text']] w fun e w' => e = .returned (.bool false) ∧ Below w.heap.size w w' := by
  go_enter Tryz.func38, Tryz.ntmps38
  go_wp2_with fail
  go_ret
  exact ⟨rfl, (HB0 _ _).out.2.2⟩
set_option maxHeartbeats 8000000 in
theorem same_no14 (ty fl ty' fl' : Int) (tsn tag win ppid st ssn outs ins tsn' tag' win' ppid' st' ssn' outs' ins' : Nat) (A1 A2 A3 B1 B2 B3 : Option Addr) (k1 k2 k3 l1 l2 l3 : Nat) (gaps gaps' : List (Nat × Nat)) (dups dups' : List Nat) (items items' : List Item) (text text' : ByteArray) (w : World) (HB0 : ∀ CA CB, Hid (SmS w CA CB ((w.alloc (.cells CA 74)).alloc (.cells CB 74)))) (HCS : Hid ((Tryz.prog.info? 74).map (·.size) = some 14)) (b1 : (ty != ty') = false) (b2 : (fl != fl') = false) (b3 : ((tsn : Int) != (tsn' : Int)) = false) (b4 : ((tag : Int) != (tag' : Int)) = false) (b5 : ((win : Int) != (win' : Int)) = false) (b6 : ((ppid : Int) != (ppid' : Int)) = false) (b7 : ((st : Int) != (st' : Int)) = false) (b8 : ((ssn : Int) != (ssn' : Int)) = false) (b9 : ((outs : Int) != (outs' : Int)) = false) (b10 : ((ins : Int) != (ins' : Int)) = false) (b11 : (!text.toList == text'.toList) = false) (b12 : ((gaps.length : Int) != (gaps'.length : Int)) = false) (b13 : ((dups.length : Int) != (dups'.length : Int)) = false) (b14 : ((items.length : Int) != (items'.length : Int)) = true)
    (HONE : Hid (((#[.int .i64 ty, .int .i64 fl, .int .u32 (tsn : Int), .int .u32 (tag : Int), .int .u32 (win : Int), .int .u32 (ppid : Int), .int .u16 (st : Int), .int .u16 (ssn : Int), .int .u16 (outs : Int), .int .u16 (ins : Int), .slice A1 gaps.length k1, .slice A2 dups.length k2, .slice A3 items.length k3, .string text] : Array Value)).all (·.oneCell') = true)) (HONE' : Hid (((#[.int .i64 ty', .int .i64 fl', .int .u32 (tsn' : Int), .int .u32 (tag' : Int), .int .u32 (win' : Int), .int .u32 (ppid' : Int), .int .u16 (st' : Int), .int .u16 (ssn' : Int), .int .u16 (outs' : Int), .int .u16 (ins' : Int), .slice B1 gaps'.length l1, .slice B2 dups'.length l2, .slice B3 items'.length l3, .string text'] : Array Value)).all (·.oneCell') = true)) :
    Calls Tryz.prog 38 #[.agg #[.int .i64 ty, .int .i64 fl, .int .u32 (tsn : Int), .int .u32 (tag : Int), .int .u32 (win : Int), .int .u32 (ppid : Int), .int .u16 (st : Int), .int .u16 (ssn : Int), .int .u16 (outs : Int), .int .u16 (ins : Int), .slice A1 gaps.length k1, .slice A2 dups.length k2, .slice A3 items.length k3, .string text], .agg #[.int .i64 ty', .int .i64 fl', .int .u32 (tsn' : Int), .int .u32 (tag' : Int), .int .u32 (win' : Int), .int .u32 (ppid' : Int), .int .u16 (st' : Int), .int .u16 (ssn' : Int), .int .u16 (outs' : Int), .int .u16 (ins' : Int), .slice B1 gaps'.length l1, .slice B2 dups'.length l2, .slice B3 items'.length l3, .string text']] w fun e w' => e = .returned (.bool false) ∧ Below w.heap.size w w' := by
  go_enter Tryz.func38, Tryz.ntmps38
  go_wp2_with fail
  go_ret
  exact ⟨rfl, (HB0 _ _).out.2.2⟩
end Go.Proofs.YtlbaockipeojhaaGreat
end
section
namespace Go.Proofs.YtlbaockipeojhaaGreat
open Go.RowKit
set_option linter.unusedVariables false
set_option linter.unusedSimpArgs false
set_option maxRecDepth 100000
set_option maxHeartbeats 8000000 in
theorem same7_any (a b : Ck) (h1 : a.gaps.length = b.gaps.length → a.gaps = b.gaps) (h2 : a.dups.length = b.dups.length → a.dups = b.dups) (h3 : a.items.length = b.items.length → a.items = b.items)
    (hg : a.gaps.length ≤ 100000) (hd : a.dups.length ≤ 100000) (hi : a.items.length ≤ 100000) (g d it g' d' it' : Value) (w : World) (hp : Parts w a g d it) (hp' : Parts w b g' d' it') :
    Calls Tryz.prog 38 #[.agg (cellsC a g d it), .agg (cellsC b g' d' it')] w fun e w' => e = .returned (.bool (sameB a b)) ∧ Below w.heap.size w w' := by
  have HCS := Lib.hid rkSize
  have HB0 := fun CA CB => Lib.hid (smS_new w CA CB)
  obtain ⟨⟨A1, k1, rfl⟩, ⟨A2, k2, rfl⟩, ⟨A3, k3, rfl⟩⟩ := hp.slices
  obtain ⟨⟨B1, l1, rfl⟩, ⟨B2, l2, rfl⟩, ⟨B3, l3, rfl⟩⟩ := hp'.slices
  have HONE := Lib.hid hp.one
  have HONE' := Lib.hid hp'.one
  have HP := Lib.hid hp
  have HP' := Lib.hid hp'
  clear hp hp'
  obtain ⟨ty, fl, tsn, tag, win, ppid, st, ssn, outs, ins, gaps, dups, items, text⟩ := a
  obtain ⟨ty', fl', tsn', tag', win', ppid', st', ssn', outs', ins', gaps', dups', items', text'⟩ := b
  unfold sameB
  dsimp only [cellsC] at *
  cases b1 : (ty != ty') with
  | true =>
    simp only [Bool.not_false, Bool.not_true, Bool.true_and, Bool.and_true, Bool.false_and, Bool.and_false]
    exact same_no1 ty fl ty' fl' tsn tag win ppid st ssn outs ins tsn' tag' win' ppid' st' ssn' outs' ins' A1 A2 A3 B1 B2 B3 k1 k2 k3 l1 l2 l3 gaps gaps' dups dups' items items' text text' w HB0 HCS b1 HONE HONE'
  | false =>
    cases b2 : (fl != fl') with
    | true =>
      simp only [Bool.not_false, Bool.not_true, Bool.true_and, Bool.and_true, Bool.false_and, Bool.and_false]
      exact same_no2 ty fl ty' fl' tsn tag win ppid st ssn outs ins tsn' tag' win' ppid' st' ssn' outs' ins' A1 A2 A3 B1 B2 B3 k1 k2 k3 l1 l2 l3 gaps gaps' dups dups' items items' text text' w HB0 HCS b1 b2 HONE HONE'
    | false =>
      cases b3 : ((tsn : Int) != (tsn' : Int)) with
      | true =>
        simp only [Bool.not_false, Bool.not_true, Bool.true_and, Bool.and_true, Bool.false_and, Bool.and_false]
        exact same_no3 ty fl ty' fl' tsn tag win ppid st ssn outs ins tsn' tag' win' ppid' st' ssn' outs' ins' A1 A2 A3 B1 B2 B3 k1 k2 k3 l1 l2 l3 gaps gaps' dups dups' items items' text text' w HB0 HCS b1 b2 b3 HONE HONE'
      | false =>
        cases b4 : ((tag : Int) != (tag' : Int)) with
        | true =>
          simp only [Bool.not_false, Bool.not_true, Bool.true_and, Bool.and_true, Bool.false_and, Bool.and_false]
          exact same_no4 ty fl ty' fl' tsn tag win ppid st ssn outs ins tsn' tag' win' ppid' st' ssn' outs' ins' A1 A2 A3 B1 B2 B3 k1 k2 k3 l1 l2 l3 gaps gaps' dups dups' items items' text text' w HB0 HCS b1 b2 b3 b4 HONE HONE'
        | false =>
          cases b5 : ((win : Int) != (win' : Int)) with
          | true =>
            simp only [Bool.not_false, Bool.not_true, Bool.true_and, Bool.and_true, Bool.false_and, Bool.and_false]
            exact same_no5 ty fl ty' fl' tsn tag win ppid st ssn outs ins tsn' tag' win' ppid' st' ssn' outs' ins' A1 A2 A3 B1 B2 B3 k1 k2 k3 l1 l2 l3 gaps gaps' dups dups' items items' text text' w HB0 HCS b1 b2 b3 b4 b5 HONE HONE'
          | false =>
            cases b6 : ((ppid : Int) != (ppid' : Int)) with
            | true =>
              simp only [Bool.not_false, Bool.not_true, Bool.true_and, Bool.and_true, Bool.false_and, Bool.and_false]
              exact same_no6 ty fl ty' fl' tsn tag win ppid st ssn outs ins tsn' tag' win' ppid' st' ssn' outs' ins' A1 A2 A3 B1 B2 B3 k1 k2 k3 l1 l2 l3 gaps gaps' dups dups' items items' text text' w HB0 HCS b1 b2 b3 b4 b5 b6 HONE HONE'
            | false =>
              cases b7 : ((st : Int) != (st' : Int)) with
              | true =>
                simp only [Bool.not_false, Bool.not_true, Bool.true_and, Bool.and_true, Bool.false_and, Bool.and_false]
                exact same_no7 ty fl ty' fl' tsn tag win ppid st ssn outs ins tsn' tag' win' ppid' st' ssn' outs' ins' A1 A2 A3 B1 B2 B3 k1 k2 k3 l1 l2 l3 gaps gaps' dups dups' items items' text text' w HB0 HCS b1 b2 b3 b4 b5 b6 b7 HONE HONE'
              | false =>
                cases b8 : ((ssn : Int) != (ssn' : Int)) with
                | true =>
                  simp only [Bool.not_false, Bool.not_true, Bool.true_and, Bool.and_true, Bool.false_and, Bool.and_false]
                  exact same_no8 ty fl ty' fl' tsn tag win ppid st ssn outs ins tsn' tag' win' ppid' st' ssn' outs' ins' A1 A2 A3 B1 B2 B3 k1 k2 k3 l1 l2 l3 gaps gaps' dups dups' items items' text text' w HB0 HCS b1 b2 b3 b4 b5 b6 b7 b8 HONE HONE'
                | false =>
                  cases b9 : ((outs : Int) != (outs' : Int)) with
                  | true =>
                    simp only [Bool.not_false, Bool.not_true, Bool.true_and, Bool.and_true, Bool.false_and, Bool.and_false]
                    exact same_no9 ty fl ty' fl' tsn tag win ppid st ssn outs ins tsn' tag' win' ppid' st' ssn' outs' ins' A1 A2 A3 B1 B2 B3 k1 k2 k3 l1 l2 l3 gaps gaps' dups dups' items items' text text' w HB0 HCS b1 b2 b3 b4 b5 b6 b7 b8 b9 HONE HONE'
                  | false =>
                    cases b10 : ((ins : Int) != (ins' : Int)) with
                    | true =>
                      simp only [Bool.not_false, Bool.not_true, Bool.true_and, Bool.and_true, Bool.false_and, Bool.and_false]
                      exact same_no10 ty fl ty' fl' tsn tag win ppid st ssn outs ins tsn' tag' win' ppid' st' ssn' outs' ins' A1 A2 A3 B1 B2 B3 k1 k2 k3 l1 l2 l3 gaps gaps' dups dups' items items' text text' w HB0 HCS b1 b2 b3 b4 b5 b6 b7 b8 b9 b10 HONE HONE'
                    | false =>
                      cases b11 : (!text.toList == text'.toList) with
                      | true =>
                        simp only [Bool.not_false, Bool.not_true, Bool.true_and, Bool.and_true, Bool.false_and, Bool.and_false]
                        exact same_no11 ty fl ty' fl' tsn tag win ppid st ssn outs ins tsn' tag' win' ppid' st' ssn' outs' ins' A1 A2 A3 B1 B2 B3 k1 k2 k3 l1 l2 l3 gaps gaps' dups dups' items items' text text' w HB0 HCS b1 b2 b3 b4 b5 b6 b7 b8 b9 b10 b11 HONE HONE'
                      | false =>
                        cases b12 : ((gaps.length : Int) != (gaps'.length : Int)) with
                        | true =>
                          simp only [Bool.not_false, Bool.not_true, Bool.true_and, Bool.and_true, Bool.false_and, Bool.and_false]
                          exact same_no12 ty fl ty' fl' tsn tag win ppid st ssn outs ins tsn' tag' win' ppid' st' ssn' outs' ins' A1 A2 A3 B1 B2 B3 k1 k2 k3 l1 l2 l3 gaps gaps' dups dups' items items' text text' w HB0 HCS b1 b2 b3 b4 b5 b6 b7 b8 b9 b10 b11 b12 HONE HONE'
                        | false =>
                          cases b13 : ((dups.length : Int) != (dups'.length : Int)) with
                          | true =>
                            simp only [Bool.not_false, Bool.not_true, Bool.true_and, Bool.and_true, Bool.false_and, Bool.and_false]
                            exact same_no13 ty fl ty' fl' tsn tag win ppid st ssn outs ins tsn' tag' win' ppid' st' ssn' outs' ins' A1 A2 A3 B1 B2 B3 k1 k2 k3 l1 l2 l3 gaps gaps' dups dups' items items' text text' w HB0 HCS b1 b2 b3 b4 b5 b6 b7 b8 b9 b10 b11 b12 b13 HONE HONE'
                          | false =>
                            cases b14 : ((items.length : Int) != (items'.length : Int)) with
                            | true =>
                              simp only [Bool.not_false, Bool.not_true, Bool.true_and, Bool.and_true, Bool.false_and, Bool.and_false]
                              exact same_no14 ty fl ty' fl' tsn tag win ppid st ssn outs ins tsn' tag' win' ppid' st' ssn' outs' ins' A1 A2 A3 B1 B2 B3 k1 k2 k3 l1 l2 l3 gaps gaps' dups dups' items items' text text' w HB0 HCS b1 b2 b3 b4 b5 b6 b7 b8 b9 b10 b11 b12 b13 b14 HONE HONE'
                            | false =>
                              simp only [Bool.not_false, Bool.not_true, Bool.true_and, Bool.and_true]
                              obtain rfl := h1 (by have := eq_of_beq (a := (gaps.length : Int)) (b := gaps'.length) (by rw [← Bool.not_eq_false']; exact b12); omega)
                              obtain rfl := h2 (by have := eq_of_beq (a := (dups.length : Int)) (b := dups'.length) (by rw [← Bool.not_eq_false']; exact b13); omega)
                              obtain rfl := h3 (by have := eq_of_beq (a := (items.length : Int)) (b := items'.length) (by rw [← Bool.not_eq_false']; exact b14); omega)
                              clear h1 h2 h3
                              have HG := Lib.hid HP.out.gaps
                              have HG' := Lib.hid HP'.out.gaps
                              have HD := Lib.hid HP.out.dups
                              have HD' := Lib.hid HP'.out.dups
                              have HI := Lib.hid HP.out.items
                              have HI' := Lib.hid HP'.out.items
                              dsimp only at HG HG' HD HD' HI HI'
                              clear HP HP'
                              go_enter Tryz.func38, Tryz.ntmps38
                              go_wp2_with fail
                              have HS0 := HB0 #[.int .i64 ty, .int .i64 fl, .int .u32 (tsn : Int), .int .u32 (tag : Int), .int .u32 (win : Int), .int .u32 (ppid : Int), .int .u16 (st : Int), .int .u16 (ssn : Int), .int .u16 (outs : Int), .int .u16 (ins : Int), .slice A1 gaps.length k1, .slice A2 dups.length k2, .slice A3 items.length k3, .string text] #[.int .i64 ty', .int .i64 fl', .int .u32 (tsn' : Int), .int .u32 (tag' : Int), .int .u32 (win' : Int), .int .u32 (ppid' : Int), .int .u16 (st' : Int), .int .u16 (ssn' : Int), .int .u16 (outs' : Int), .int .u16 (ins' : Int), .slice B1 gaps.length l1, .slice B2 dups.length l2, .slice B3 items.length l3, .string text']
                              generalize ((w.alloc (.cells #[.int .i64 ty, .int .i64 fl, .int .u32 (tsn : Int), .int .u32 (tag : Int), .int .u32 (win : Int), .int .u32 (ppid : Int), .int .u16 (st : Int), .int .u16 (ssn : Int), .int .u16 (outs : Int), .int .u16 (ins : Int), .slice A1 gaps.length k1, .slice A2 dups.length k2, .slice A3 items.length k3, .string text] 74)).alloc (.cells #[.int .i64 ty', .int .i64 fl', .int .u32 (tsn' : Int), .int .u32 (tag' : Int), .int .u32 (win' : Int), .int .u32 (ppid' : Int), .int .u16 (st' : Int), .int .u16 (ssn' : Int), .int .u16 (outs' : Int), .int .u16 (ins' : Int), .slice B1 gaps.length l1, .slice B2 dups.length l2, .slice B3 items.length l3, .string text'] 74)) = w1 at *
                              go_loopw [5] (fun i wr => ∃ k : Nat, k ≤ gaps.length ∧ i = .int .i64 k ∧ Hid (SmS w #[.int .i64 ty, .int .i64 fl, .int .u32 (tsn : Int), .int .u32 (tag : Int), .int .u32 (win : Int), .int .u32 (ppid : Int), .int .u16 (st : Int), .int .u16 (ssn : Int), .int .u16 (outs : Int), .int .u16 (ins : Int), .slice A1 gaps.length k1, .slice A2 dups.length k2, .slice A3 items.length k3, .string text] #[.int .i64 ty', .int .i64 fl', .int .u32 (tsn' : Int), .int .u32 (tag' : Int), .int .u32 (win' : Int), .int .u32 (ppid' : Int), .int .u16 (st' : Int), .int .u16 (ssn' : Int), .int .u16 (outs' : Int), .int .u16 (ins' : Int), .slice B1 gaps.length l1, .slice B2 dups.length l2, .slice B3 items.length l3, .string text'] wr))
                                (fun i _ => gaps.length - (intOf i).toNat)
                              case atStart => exact ⟨0, Nat.zero_le _, rfl, HS0⟩
                              case round =>
                                obtain ⟨k, hk, rfl, HR⟩ := hrel
                                have cA : wr.cell? ⟨w.heap.size, 10, none⟩ = some (.slice A1 gaps.length k1) := by rw [cell_in HR.out.1]; rfl
                                by_cases hlt : k < gaps.length
                                · have cB : wr.cell? ⟨w.heap.size + 1, 10, none⟩ = some (.slice B1 gaps.length l1) := by rw [cell_in HR.out.2.1]; rfl
                                  obtain ⟨A', k', h3, hcap, hmax, hcells⟩ := HG.out
                                  cases h3
                                  obtain ⟨b, off, rfl, hb, hc⟩ := hcells (by omega)
                                  obtain ⟨A', k', h3, hcap', hmax', hcells'⟩ := HG'.out
                                  cases h3
                                  obtain ⟨b', off', rfl, hb', hc'⟩ := hcells' (by omega)
                                  obtain ⟨hc0, hc1⟩ := hc k hlt
                                  obtain ⟨hc2, hc3⟩ := hc' k hlt
                                  generalize gaps[k] = x at *
                                  obtain ⟨x, y⟩ := x
                                  dsimp only at hc0 hc1 hc2 hc3
                                  have hd0 := (HR.out.2.2.cell (p := ⟨b, off + k * 2, none⟩) hb).trans hc0
                                  have hd1 := (HR.out.2.2.cell (p := ⟨b, off + k * 2 + 1, none⟩) hb).trans hc1
                                  have hd2 := (HR.out.2.2.cell (p := ⟨b', off' + k * 2, none⟩) hb').trans hc2
                                  have hd3 := (HR.out.2.2.cell (p := ⟨b', off' + k * 2 + 1, none⟩) hb').trans hc3
                                  clear hc0 hc1 hc2 hc3
                                  have q4 : (0 : Int) ≤ (k : Int) := by omega
                                  have q5 : (k : Int) < (gaps.length : Int) := by omega
                                  clear hcells hcells' hc hc' hmax hmax' hcap hcap'
                                  go_wp2_with fail
                                  have HK0 := Lib.hid (And.intro ((World.cell?_drew wr ⟨w.heap.size, 10, none⟩).trans cA) (And.intro ((World.cell?_drew wr ⟨w.heap.size + 1, 10, none⟩).trans cB) (And.intro ((World.cell?_drew wr ⟨b, off + k * 2, none⟩).trans hd0) (And.intro ((World.cell?_drew wr ⟨b, off + k * 2 + 1, none⟩).trans hd1) (And.intro ((World.cell?_drew wr ⟨b', off' + k * 2, none⟩).trans hd2) ((World.cell?_drew wr ⟨b', off' + k * 2 + 1, none⟩).trans hd3))))))
                                  have hnq := fun W => neq_arr x y W
                                  go_region_held3 (fun w' => w'.cell? ⟨w.heap.size, 10, none⟩ = some (.slice (some ⟨b, off, none⟩) gaps.length k1) ∧ w'.cell? ⟨w.heap.size + 1, 10, none⟩ = some (.slice (some ⟨b', off', none⟩) gaps.length l1) ∧ w'.cell? ⟨b, off + k * 2, none⟩ = some (.int .u16 (x : Int)) ∧ w'.cell? ⟨b, off + k * 2 + 1, none⟩ = some (.int .u16 (y : Int)) ∧ w'.cell? ⟨b', off' + k * 2, none⟩ = some (.int .u16 (x : Int)) ∧ w'.cell? ⟨b', off' + k * 2 + 1, none⟩ = some (.int .u16 (y : Int)))
                                    (exact HK0.out) (fail)
                                  clear hnq HK0
                                  rename_i hHeld
                                  clear hHeld
                                  clear cA cB hd0 hd1 hd2 hd3
                                  go_wp2_with fail
                                  go_roundw
                                  case rel => exact ⟨k + 1, by omega, by go_num, Lib.hid HR.out.drew⟩
                                  case measure => simp [intOf]; omega
                                · obtain rfl : k = gaps.length := by omega
                                  go_wp2_with fail
                                  clear cA HS0
                                  replace HS0 := HR
                                  clear HR
                                  go_loopw [6] (fun i wr => ∃ k : Nat, k ≤ dups.length ∧ i = .int .i64 k ∧ Hid (SmS w #[.int .i64 ty, .int .i64 fl, .int .u32 (tsn : Int), .int .u32 (tag : Int), .int .u32 (win : Int), .int .u32 (ppid : Int), .int .u16 (st : Int), .int .u16 (ssn : Int), .int .u16 (outs : Int), .int .u16 (ins : Int), .slice A1 gaps.length k1, .slice A2 dups.length k2, .slice A3 items.length k3, .string text] #[.int .i64 ty', .int .i64 fl', .int .u32 (tsn' : Int), .int .u32 (tag' : Int), .int .u32 (win' : Int), .int .u32 (ppid' : Int), .int .u16 (st' : Int), .int .u16 (ssn' : Int), .int .u16 (outs' : Int), .int .u16 (ins' : Int), .slice B1 gaps.length l1, .slice B2 dups.length l2, .slice B3 items.length l3, .string text'] wr))
                                    (fun i _ => dups.length - (intOf i).toNat)
                                  case atStart => exact ⟨0, Nat.zero_le _, rfl, HS0⟩
                                  case round =>
                                    obtain ⟨k, hk, rfl, HR⟩ := hrel
                                    have cA : wr.cell? ⟨w.heap.size, 11, none⟩ = some (.slice A2 dups.length k2) := by rw [cell_in HR.out.1]; rfl
                                    by_cases hlt : k < dups.length
                                    · have cB : wr.cell? ⟨w.heap.size + 1, 11, none⟩ = some (.slice B2 dups.length l2) := by rw [cell_in HR.out.2.1]; rfl
                                      obtain ⟨A', k', h3, hcap, hmax, hcells⟩ := HD.out
                                      cases h3
                                      obtain ⟨b, off, rfl, hb, hc⟩ := hcells (by omega)
                                      obtain ⟨A', k', h3, hcap', hmax', hcells'⟩ := HD'.out
                                      cases h3
                                      obtain ⟨b', off', rfl, hb', hc'⟩ := hcells' (by omega)
                                      have hc0 : w.cell? ⟨b, off + k, none⟩ = some (.int .u32 ((dups[k]! : Nat) : Int)) := hc k hlt
                                      have hc1 : w.cell? ⟨b', off' + k, none⟩ = some (.int .u32 ((dups[k]! : Nat) : Int)) := hc' k hlt
                                      generalize dups[k]! = x at *
                                      have hd0 := (HR.out.2.2.cell (p := ⟨b, off + k, none⟩) hb).trans hc0
                                      have hd1 := (HR.out.2.2.cell (p := ⟨b', off' + k, none⟩) hb').trans hc1
                                      clear hc0 hc1
                                      have q4 : (0 : Int) ≤ (k : Int) := by omega
                                      have q5 : (k : Int) < (dups.length : Int) := by omega
                                      clear hcells hcells' hc hc' hmax hmax' hcap hcap'
                                      go_wp2_with fail
                                      have HK0 := Lib.hid (And.intro ((World.cell?_drew wr ⟨w.heap.size, 11, none⟩).trans cA) (And.intro ((World.cell?_drew wr ⟨w.heap.size + 1, 11, none⟩).trans cB) (And.intro ((World.cell?_drew wr ⟨b, off + k, none⟩).trans hd0) ((World.cell?_drew wr ⟨b', off' + k, none⟩).trans hd1))))
                                      have hnq : True := trivial
                                      go_region_held3 (fun w' => w'.cell? ⟨w.heap.size, 11, none⟩ = some (.slice (some ⟨b, off, none⟩) dups.length k2) ∧ w'.cell? ⟨w.heap.size + 1, 11, none⟩ = some (.slice (some ⟨b', off', none⟩) dups.length l2) ∧ w'.cell? ⟨b, off + k, none⟩ = some (.int .u32 (x : Int)) ∧ w'.cell? ⟨b', off' + k, none⟩ = some (.int .u32 (x : Int)))
                                        (exact HK0.out) (fail)
                                      clear hnq HK0
                                      rename_i hHeld
                                      clear hHeld
                                      clear cA cB hd0 hd1
                                      go_wp2_with fail
                                      go_roundw
                                      case rel => exact ⟨k + 1, by omega, by go_num, Lib.hid HR.out.drew⟩
                                      case measure => simp [intOf]; omega
                                    · obtain rfl : k = dups.length := by omega
                                      go_wp2_with fail
                                      clear cA HS0
                                      replace HS0 := HR
                                      clear HR
                                      go_loopw [7] (fun i wr => ∃ k : Nat, k ≤ items.length ∧ i = .int .i64 k ∧ Hid (SmS w #[.int .i64 ty, .int .i64 fl, .int .u32 (tsn : Int), .int .u32 (tag : Int), .int .u32 (win : Int), .int .u32 (ppid : Int), .int .u16 (st : Int), .int .u16 (ssn : Int), .int .u16 (outs : Int), .int .u16 (ins : Int), .slice A1 gaps.length k1, .slice A2 dups.length k2, .slice A3 items.length k3, .string text] #[.int .i64 ty', .int .i64 fl', .int .u32 (tsn' : Int), .int .u32 (tag' : Int), .int .u32 (win' : Int), .int .u32 (ppid' : Int), .int .u16 (st' : Int), .int .u16 (ssn' : Int), .int .u16 (outs' : Int), .int .u16 (ins' : Int), .slice B1 gaps.length l1, .slice B2 dups.length l2, .slice B3 items.length l3, .string text'] wr))
                                        (fun i _ => items.length - (intOf i).toNat)
                                      case atStart => exact ⟨0, Nat.zero_le _, rfl, HS0⟩
                                      case round =>
                                        obtain ⟨k, hk, rfl, HR⟩ := hrel
                                        have cA : wr.cell? ⟨w.heap.size, 12, none⟩ = some (.slice A3 items.length k3) := by rw [cell_in HR.out.1]; rfl
                                        by_cases hlt : k < items.length
                                        · have cB : wr.cell? ⟨w.heap.size + 1, 12, none⟩ = some (.slice B3 items.length l3) := by rw [cell_in HR.out.2.1]; rfl
                                          obtain ⟨A', k', h3, hcap, hmax, hcells⟩ := HI.out
                                          cases h3
                                          obtain ⟨b, off, rfl, hb, hc⟩ := hcells (by omega)
                                          obtain ⟨A', k', h3, hcap', hmax', hcells'⟩ := HI'.out
                                          cases h3
                                          obtain ⟨b', off', rfl, hb', hc'⟩ := hcells' (by omega)
                                          obtain ⟨hc0, hc1⟩ := hc k hlt
                                          obtain ⟨hc2, hc3⟩ := hc' k hlt
                                          generalize items[k] = x at *
                                          obtain ⟨x, y⟩ := x
                                          dsimp only at hc0 hc1 hc2 hc3
                                          have hd0 := (HR.out.2.2.cell (p := ⟨b, off + k * 2, none⟩) hb).trans hc0
                                          have hd1 := (HR.out.2.2.cell (p := ⟨b, off + k * 2 + 1, none⟩) hb).trans hc1
                                          have hd2 := (HR.out.2.2.cell (p := ⟨b', off' + k * 2, none⟩) hb').trans hc2
                                          have hd3 := (HR.out.2.2.cell (p := ⟨b', off' + k * 2 + 1, none⟩) hb').trans hc3
                                          clear hc0 hc1 hc2 hc3
                                          have q4 : (0 : Int) ≤ (k : Int) := by omega
                                          have q5 : (k : Int) < (items.length : Int) := by omega
                                          clear hcells hcells' hc hc' hmax hmax' hcap hcap'
                                          go_wp2_with fail
                                          have HK0 := Lib.hid (And.intro ((World.cell?_drew wr ⟨w.heap.size, 12, none⟩).trans cA) (And.intro ((World.cell?_drew wr ⟨w.heap.size + 1, 12, none⟩).trans cB) (And.intro ((World.cell?_drew wr ⟨b, off + k * 2, none⟩).trans hd0) (And.intro ((World.cell?_drew wr ⟨b, off + k * 2 + 1, none⟩).trans hd1) (And.intro ((World.cell?_drew wr ⟨b', off' + k * 2, none⟩).trans hd2) ((World.cell?_drew wr ⟨b', off' + k * 2 + 1, none⟩).trans hd3))))))
                                          have hnq := fun W => neq_itm x y W
                                          go_region_held3 (fun w' => w'.cell? ⟨w.heap.size, 12, none⟩ = some (.slice (some ⟨b, off, none⟩) items.length k3) ∧ w'.cell? ⟨w.heap.size + 1, 12, none⟩ = some (.slice (some ⟨b', off', none⟩) items.length l3) ∧ w'.cell? ⟨b, off + k * 2, none⟩ = some (.int .i64 x) ∧ w'.cell? ⟨b, off + k * 2 + 1, none⟩ = some (.string y) ∧ w'.cell? ⟨b', off' + k * 2, none⟩ = some (.int .i64 x) ∧ w'.cell? ⟨b', off' + k * 2 + 1, none⟩ = some (.string y))
                                            (exact HK0.out) (fail)
                                          clear hnq HK0
                                          rename_i hHeld
                                          clear hHeld
                                          clear cA cB hd0 hd1 hd2 hd3
                                          go_wp2_with fail
                                          go_roundw
                                          case rel => exact ⟨k + 1, by omega, by go_num, Lib.hid HR.out.drew⟩
                                          case measure => simp [intOf]; omega
                                        · obtain rfl : k = items.length := by omega
                                          go_wp2_with fail
                                          go_ret
                                          exact ⟨rfl, HR.out.2.2⟩
end Go.Proofs.YtlbaockipeojhaaGreat
end
