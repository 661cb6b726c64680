import PyProof.Rows.All
import Wide.All
import OpenK.AllK
import Wide.FinOn
import HandS.ForMost
import HandS.Evl
import HandS.IsInst
import HandS.StrMore
import HandS.Strs
import HandS.TupAny
import HandS.Zip
import HandS.Walk
import HandS.Wide
import HandS.Conv
import HandS.Property
import HandS.ClsMeth
import HandS.CallLocal
import HandS.Defaults
import HandS.FStr
import HandS.TupMul
import HandS.Exc
import HandS.ExcInit
import HandS.ExcField
import PySem.Challenge.RW_halvesmeet_k12_whole_puts_syncs_and_fall
import HandS.SetFor
set_option Elab.async false
set_option linter.all false
set_option maxRecDepth 100000
set_option maxHeartbeats 8000000
namespace K0
open PySem L2 Evl
/-- a dict of the top from texts to defs -/
def TabF (K : PySem.W.Frag) (w : World) (a : Addr) (ts : List (Str × Addr)) : Prop := ∃ es n, KDict K w a es n ∧ ∀ z, PySem.W.nsIn K a z = some ((ts.lookup z).map Value.ref)
/-- an own class has what isinstance asks -/
structure ObjC (K : PySem.W.Frag) (C : Addr) : Prop where
  ca : PySem.W.findIn K (.ref C) "__class__" = some (some (.builtin "object.__class__"))
  cg : PySem.W.specialIn K (.builtin "object.__class__") "__get__" = some (some (.builtin "getset_descriptor.__get__"))
  ct : PySem.W.takesIn K (.builtin "object.__class__") = some true
  co : PySem.W.mroIn K C (.type "object") = some true
def bmVE : List Value := [.type "ValueError", .type "Exception", .type "BaseException", .type "object"]
/-- an exception class over ValueError, without an __init__ of its own -/
structure ExcF (K : PySem.W.Frag) (mg : Str → Option Value) (x : Str) (C : Addr) : Prop where
  g : mg x = some (.ref C)
  q : PySem.W.excIn K C bmVE "ValueError.__new__" = true
  k : PySem.W.keepIn K (.ref C) = true
  b : PySem.W.subIn K (.ref C) (.type "BaseException") = some true
  t : PySem.W.typeIn K (.ref C) = some (.type "type")
/-- an exception class over ValueError with an __init__ of its own alone -/
def oexIn (K : PySem.W.Frag) (C : Addr) : Bool := match K.lookup C with
  | some ⟨.type "type", _, .cls cd, sl⟩ => (match cd.mro, sl.toList with
    | .ref C' :: bm, [_, _, _, _, some (.builtin n), _] => C' == C && n == "ValueError.__new__" && !cd.hasDel && cd.hasDict && PySem.HandSPX.refsVE bm
    | _, _ => false)
  | _ => false
theorem oexC {K : PySem.W.Frag} {C : Addr} (q : oexIn K C = true) (sa : PySem.W.findIn K (.ref C) "__setattr__" = some (some (.builtin "object.__setattr__"))) (exC : PySem.W.subIn K (.ref C) (.type "BaseException") = some true)
    (tyC : PySem.W.typeIn K (.ref C) = some (.type "type")) (kC : PySem.W.keepIn K (.ref C) = true) : OexC K C := by
  refine ⟨?_, sa, exC, tyC, kC⟩
  unfold oexIn at q
  split at q
  · rename_i dd cd sl ho
    split at q
    · rename_i C' bm k0 k1 k2 k3 n k5 hm hs
      simp only [Bool.and_eq_true, beq_iff_eq, Bool.not_eq_true'] at q
      obtain ⟨⟨⟨⟨rfl, rfl⟩, hdel⟩, hdi⟩, ht⟩ := q
      obtain ⟨nm, bs, mro, ns, qn, hd, sn, sub, ab, col, del⟩ := cd
      dsimp only at hm hdel hdi
      subst hm hdel hdi
      have hsl : sl = #[k0, k1, k2, k3, some (.builtin "ValueError.__new__"), k5] := by
        obtain ⟨l⟩ := sl
        simp only at hs
        rw [hs]
      subst hsl
      exact ⟨nm, qn, ns, bs, bm, sn, sub, ab, col, dd, k0, k1, k2, k3, k5, ho, ht⟩
    · cases q
  · cases q
structure ExI (K : PySem.W.Frag) (mg : Str → Option Value) (x : Str) (C fI : Addr) : Prop where
  g : mg x = some (.ref C)
  o : OexC K C
  x : XfC K C
  i : PySem.W.findIn K (.ref C) "__init__" = some (some (.ref fI))
  t : PySem.W.typeIn K (.ref fI) = some (.type "function")
def top (i : Nat) : Stmt := PySem.Challenge.pw_halvesmeet_k12_whole_puts_syncs_and_fall.main.body.getD i (.Pass ⟨0, 0, 0, 0⟩)
abbrev s_is_number : Stmt := top 11
abbrev N_is_number : List Str := ["value"]
theorem sc_is_number : FnScope N_is_number ["value"] (defScope s_is_number) := ⟨rfl, rfl, rfl, by decide +kernel, rfl, by decide +kernel, by decide +kernel⟩
abbrev s_is_within : Stmt := top 12
abbrev N_is_within : List Str := ["value", "least", "most"]
theorem sc_is_within : FnScope N_is_within ["value", "least", "most"] (defScope s_is_within) := ⟨rfl, rfl, rfl, by decide +kernel, rfl, by decide +kernel, by decide +kernel⟩
abbrev s_are_indices : Stmt := top 13
abbrev N_are_indices : List Str := ["value", "many", "index"]
theorem sc_are_indices : FnScope N_are_indices ["value", "many"] (defScope s_are_indices) := ⟨rfl, rfl, rfl, by decide +kernel, rfl, by decide +kernel, by decide +kernel⟩
abbrev s_are_ascending : Stmt := top 14
abbrev N_are_ascending : List Str := ["row", "one", "other"]
theorem sc_are_ascending : FnScope N_are_ascending ["row"] (defScope s_are_ascending) := ⟨rfl, rfl, rfl, by decide +kernel, rfl, by decide +kernel, by decide +kernel⟩
abbrev s_is_made_of : Stmt := top 15
abbrev N_is_made_of : List Str := ["value", "signs", "most"]
theorem sc_is_made_of : FnScope N_is_made_of ["value", "signs", "most"] (defScope s_is_made_of) := ⟨rfl, rfl, rfl, by decide +kernel, rfl, by decide +kernel, by decide +kernel⟩
abbrev s_is_plain : Stmt := top 16
abbrev N_is_plain : List Str := ["value"]
theorem sc_is_plain : FnScope N_is_plain ["value"] (defScope s_is_plain) := ⟨rfl, rfl, rfl, by decide +kernel, rfl, by decide +kernel, by decide +kernel⟩
abbrev s_is_plain_within : Stmt := top 17
abbrev N_is_plain_within : List Str := ["value", "most", "level", "nest", "inner", "part", "row", "member"]
theorem sc_is_plain_within : FnScope N_is_plain_within ["value", "most"] (defScope s_is_plain_within) := ⟨rfl, rfl, rfl, by decide +kernel, rfl, by decide +kernel, by decide +kernel⟩
abbrev s_is_single : Stmt := top 18
abbrev N_is_single : List Str := ["value"]
theorem sc_is_single : FnScope N_is_single ["value"] (defScope s_is_single) := ⟨rfl, rfl, rfl, by decide +kernel, rfl, by decide +kernel, by decide +kernel⟩
abbrev s_check_number : Stmt := top 20
abbrev N_check_number : List Str := ["given", "least", "most"]
theorem sc_check_number : FnScope N_check_number ["given", "least", "most"] (defScope s_check_number) := ⟨rfl, rfl, rfl, by decide +kernel, rfl, by decide +kernel, by decide +kernel⟩
abbrev s_is_block : Stmt := top 24
abbrev N_is_block : List Str := ["value"]
theorem sc_is_block : FnScope N_is_block ["value"] (defScope s_is_block) := ⟨rfl, rfl, rfl, by decide +kernel, rfl, by decide +kernel, by decide +kernel⟩
abbrev s_are_blocks : Stmt := top 25
abbrev N_are_blocks : List Str := ["value", "least", "block"]
theorem sc_are_blocks : FnScope N_are_blocks ["value", "least"] (defScope s_are_blocks) := ⟨rfl, rfl, rfl, by decide +kernel, rfl, by decide +kernel, by decide +kernel⟩
abbrev s_Disk_init : Stmt := inClass (top 26) 0
abbrev N_Disk_init : List Str := ["self", "blocks"]
theorem sc_Disk_init : FnScope N_Disk_init ["self", "blocks"] (defScope s_Disk_init) := ⟨rfl, rfl, rfl, by decide +kernel, rfl, by decide +kernel, by decide +kernel⟩
abbrev s_Disk_empty : Stmt := inClass (top 26) 1
abbrev N_Disk_empty : List Str := ["cls", "many"]
theorem sc_Disk_empty : FnScope N_Disk_empty ["cls", "many"] (defScope s_Disk_empty) := ⟨rfl, rfl, rfl, by decide +kernel, rfl, by decide +kernel, by decide +kernel⟩
abbrev s_Disk_sure : Stmt := inClass (top 26) 2
abbrev N_Disk_sure : List Str := ["self"]
theorem sc_Disk_sure : FnScope N_Disk_sure ["self"] (defScope s_Disk_sure) := ⟨rfl, rfl, rfl, by decide +kernel, rfl, by decide +kernel, by decide +kernel⟩
abbrev s_Disk_waiting : Stmt := inClass (top 26) 3
abbrev N_Disk_waiting : List Str := ["self"]
theorem sc_Disk_waiting : FnScope N_Disk_waiting ["self"] (defScope s_Disk_waiting) := ⟨rfl, rfl, rfl, by decide +kernel, rfl, by decide +kernel, by decide +kernel⟩
abbrev s_Disk_put : Stmt := inClass (top 26) 4
abbrev N_Disk_put : List Str := ["self", "place", "block"]
theorem sc_Disk_put : FnScope N_Disk_put ["self", "place", "block"] (defScope s_Disk_put) := ⟨rfl, rfl, rfl, by decide +kernel, rfl, by decide +kernel, by decide +kernel⟩
abbrev s_Disk_read : Stmt := inClass (top 26) 5
abbrev N_Disk_read : List Str := ["self", "place"]
theorem sc_Disk_read : FnScope N_Disk_read ["self", "place"] (defScope s_Disk_read) := ⟨rfl, rfl, rfl, by decide +kernel, rfl, by decide +kernel, by decide +kernel⟩
abbrev s_Disk_blocks : Stmt := inClass (top 26) 6
abbrev N_Disk_blocks : List Str := ["self"]
theorem sc_Disk_blocks : FnScope N_Disk_blocks ["self"] (defScope s_Disk_blocks) := ⟨rfl, rfl, rfl, by decide +kernel, rfl, by decide +kernel, by decide +kernel⟩
abbrev s_Disk_synced : Stmt := inClass (top 26) 7
abbrev N_Disk_synced : List Str := ["self"]
theorem sc_Disk_synced : FnScope N_Disk_synced ["self"] (defScope s_Disk_synced) := ⟨rfl, rfl, rfl, by decide +kernel, rfl, by decide +kernel, by decide +kernel⟩
abbrev s_Disk_fallen : Stmt := inClass (top 26) 8
abbrev N_Disk_fallen : List Str := ["self", "kept", "index"]
theorem sc_Disk_fallen : FnScope N_Disk_fallen ["self", "kept"] (defScope s_Disk_fallen) := ⟨rfl, rfl, rfl, by decide +kernel, rfl, by decide +kernel, by decide +kernel⟩
abbrev s_Disk_len : Stmt := inClass (top 26) 9
abbrev N_Disk_len : List Str := ["self"]
theorem sc_Disk_len : FnScope N_Disk_len ["self"] (defScope s_Disk_len) := ⟨rfl, rfl, rfl, by decide +kernel, rfl, by decide +kernel, by decide +kernel⟩
abbrev s_Disk_eq : Stmt := inClass (top 26) 10
abbrev N_Disk_eq : List Str := ["self", "other"]
theorem sc_Disk_eq : FnScope N_Disk_eq ["self", "other"] (defScope s_Disk_eq) := ⟨rfl, rfl, rfl, by decide +kernel, rfl, by decide +kernel, by decide +kernel⟩
abbrev s_Disk_str : Stmt := inClass (top 26) 11
abbrev N_Disk_str : List Str := ["self"]
theorem sc_Disk_str : FnScope N_Disk_str ["self"] (defScope s_Disk_str) := ⟨rfl, rfl, rfl, by decide +kernel, rfl, by decide +kernel, by decide +kernel⟩
abbrev s_made : Stmt := top 27
abbrev N_made : List Str := ["sure", "waiting", "disk"]
theorem sc_made : FnScope N_made ["sure", "waiting"] (defScope s_made) := ⟨rfl, rfl, rfl, by decide +kernel, rfl, by decide +kernel, by decide +kernel⟩
abbrev s_behind : Stmt := top 28
abbrev N_behind : List Str := ["sure", "puts", "blocks", "place", "block"]
theorem sc_behind : FnScope N_behind ["sure", "puts"] (defScope s_behind) := ⟨rfl, rfl, rfl, by decide +kernel, rfl, by decide +kernel, by decide +kernel⟩
abbrev s_law_dice : Stmt := top 30
abbrev N_law_dice : List Str := ["script", "spot", "cell", "left"]
theorem sc_law_dice : FnScope N_law_dice ["script", "spot"] (defScope s_law_dice) := ⟨rfl, rfl, rfl, by decide +kernel, rfl, by decide +kernel, by decide +kernel⟩
abbrev s_law_roll : Stmt := top 31
abbrev N_law_roll : List Str := ["dice", "most", "found", "one", "two"]
theorem sc_law_roll : FnScope N_law_roll ["dice", "most"] (defScope s_law_roll) := ⟨rfl, rfl, rfl, by decide +kernel, rfl, by decide +kernel, by decide +kernel⟩
abbrev s_law_pick : Stmt := top 32
abbrev N_law_pick : List Str := ["dice", "items"]
theorem sc_law_pick : FnScope N_law_pick ["dice", "items"] (defScope s_law_pick) := ⟨rfl, rfl, rfl, by decide +kernel, rfl, by decide +kernel, by decide +kernel⟩
abbrev s_law_block_drawn : Stmt := top 33
abbrev N_law_block_drawn : List Str := ["dice"]
theorem sc_law_block_drawn : FnScope N_law_block_drawn ["dice"] (defScope s_law_block_drawn) := ⟨rfl, rfl, rfl, by decide +kernel, rfl, by decide +kernel, by decide +kernel⟩
abbrev s_law_is_right : Stmt := top 34
abbrev N_law_is_right : List Str := ["disk", "sure", "waiting", "reads", "place", "block"]
theorem sc_law_is_right : FnScope N_law_is_right ["disk", "sure", "waiting"] (defScope s_law_is_right) := ⟨rfl, rfl, rfl, by decide +kernel, rfl, by decide +kernel, by decide +kernel⟩
abbrev s_law_next : Stmt := top 35
abbrev N_law_next : List Str := ["dice", "disk", "sure", "waiting", "way", "place", "block", "kept", "at", "found"]
theorem sc_law_next : FnScope N_law_next ["dice", "disk", "sure", "waiting"] (defScope s_law_next) := ⟨rfl, rfl, rfl, by decide +kernel, rfl, by decide +kernel, by decide +kernel⟩
abbrev s_law_right : Stmt := top 36
abbrev N_law_right : List Str := ["dice", "sure", "waiting", "place", "disk", "seen", "turn", "one", "blocks", "puts"]
theorem sc_law_right : FnScope N_law_right ["dice"] (defScope s_law_right) := ⟨rfl, rfl, rfl, by decide +kernel, rfl, by decide +kernel, by decide +kernel⟩
abbrev s_law : Stmt := top 37
abbrev N_law : List Str := ["script", "spot", "dice", "disk", "told"]
theorem sc_law : FnScope N_law ["script"] (defScope s_law) := ⟨rfl, rfl, rfl, by decide +kernel, rfl, by decide +kernel, by decide +kernel⟩
structure Ad where
  Disk : Addr
  is_number : Addr
  is_within : Addr
  are_indices : Addr
  are_ascending : Addr
  is_made_of : Addr
  is_plain : Addr
  is_plain_within : Addr
  is_single : Addr
  check_number : Addr
  is_block : Addr
  are_blocks : Addr
  Disk_init : Addr
  Disk_empty : Addr
  Disk_sure : Addr
  Disk_waiting : Addr
  Disk_put : Addr
  Disk_read : Addr
  Disk_blocks : Addr
  Disk_synced : Addr
  Disk_fallen : Addr
  Disk_len : Addr
  Disk_eq : Addr
  Disk_str : Addr
  made : Addr
  behind : Addr
  law_dice : Addr
  law_roll : Addr
  law_pick : Addr
  law_block_drawn : Addr
  law_is_right : Addr
  law_next : Addr
  law_right : Addr
  law : Addr
structure Fd where
  is_number : FuncData
  is_within : FuncData
  are_indices : FuncData
  are_ascending : FuncData
  is_made_of : FuncData
  is_plain : FuncData
  is_plain_within : FuncData
  is_single : FuncData
  check_number : FuncData
  is_block : FuncData
  are_blocks : FuncData
  Disk_init : FuncData
  Disk_empty : FuncData
  Disk_sure : FuncData
  Disk_waiting : FuncData
  Disk_put : FuncData
  Disk_read : FuncData
  Disk_blocks : FuncData
  Disk_synced : FuncData
  Disk_fallen : FuncData
  Disk_len : FuncData
  Disk_eq : FuncData
  Disk_str : FuncData
  made : FuncData
  behind : FuncData
  law_dice : FuncData
  law_roll : FuncData
  law_pick : FuncData
  law_block_drawn : FuncData
  law_is_right : FuncData
  law_next : FuncData
  law_right : FuncData
  law : FuncData
/-- what the top has written -/
structure Txt (K : PySem.W.Frag) (mg : Str → Option Value) (A : Ad) (D : Fd) : Prop where
  g_is_number : mg "is_number" = some (.ref A.is_number)
  F_is_number : Fun K "is_number" "is_number" s_is_number A.is_number D.is_number
  b_is_number : Binds K D.is_number ["value"] []
  g_is_within : mg "is_within" = some (.ref A.is_within)
  F_is_within : Fun K "is_within" "is_within" s_is_within A.is_within D.is_within
  b_is_within : Binds K D.is_within ["value", "least", "most"] []
  g_are_indices : mg "are_indices" = some (.ref A.are_indices)
  F_are_indices : Fun K "are_indices" "are_indices" s_are_indices A.are_indices D.are_indices
  b_are_indices : Binds K D.are_indices ["value", "many"] []
  g_are_ascending : mg "are_ascending" = some (.ref A.are_ascending)
  F_are_ascending : Fun K "are_ascending" "are_ascending" s_are_ascending A.are_ascending D.are_ascending
  b_are_ascending : Binds K D.are_ascending ["row"] []
  g_is_made_of : mg "is_made_of" = some (.ref A.is_made_of)
  F_is_made_of : Fun K "is_made_of" "is_made_of" s_is_made_of A.is_made_of D.is_made_of
  b_is_made_of : Binds K D.is_made_of ["value", "signs", "most"] []
  g_is_plain : mg "is_plain" = some (.ref A.is_plain)
  F_is_plain : Fun K "is_plain" "is_plain" s_is_plain A.is_plain D.is_plain
  b_is_plain : Binds K D.is_plain ["value"] []
  g_is_plain_within : mg "is_plain_within" = some (.ref A.is_plain_within)
  F_is_plain_within : Fun K "is_plain_within" "is_plain_within" s_is_plain_within A.is_plain_within D.is_plain_within
  b_is_plain_within : Binds K D.is_plain_within ["value", "most"] []
  g_is_single : mg "_is_single" = some (.ref A.is_single)
  F_is_single : Fun K "_is_single" "_is_single" s_is_single A.is_single D.is_single
  b_is_single : Binds K D.is_single ["value"] []
  g_check_number : mg "check_number" = some (.ref A.check_number)
  F_check_number : FunD K "check_number" "check_number" (defArgs s_check_number) (defBody s_check_number) (defScope s_check_number) [.int (999999999999999999999999999999999999999999999999999999999999)] [] A.check_number D.check_number
  d_check_number : ∃ ds, Vals [.int (999999999999999999999999999999999999999999999999999999999999)] ds ∧ Binds K D.check_number ["given", "least", "most"] ds
  b_check_number : Binds K D.check_number ["given", "least", "most"] []
  g_is_block : mg "is_block" = some (.ref A.is_block)
  F_is_block : Fun K "is_block" "is_block" s_is_block A.is_block D.is_block
  b_is_block : Binds K D.is_block ["value"] []
  g_are_blocks : mg "are_blocks" = some (.ref A.are_blocks)
  F_are_blocks : Fun K "are_blocks" "are_blocks" s_are_blocks A.are_blocks D.are_blocks
  b_are_blocks : Binds K D.are_blocks ["value", "least"] []
  F_Disk_init : Fun K "__init__" "Disk.__init__" s_Disk_init A.Disk_init D.Disk_init
  b_Disk_init : Binds K D.Disk_init ["self", "blocks"] []
  F_Disk_empty : Fun K "empty" "Disk.empty" s_Disk_empty A.Disk_empty D.Disk_empty
  b_Disk_empty : Binds K D.Disk_empty ["cls", "many"] []
  F_Disk_sure : Fun K "sure" "Disk.sure" s_Disk_sure A.Disk_sure D.Disk_sure
  b_Disk_sure : Binds K D.Disk_sure ["self"] []
  F_Disk_waiting : Fun K "waiting" "Disk.waiting" s_Disk_waiting A.Disk_waiting D.Disk_waiting
  b_Disk_waiting : Binds K D.Disk_waiting ["self"] []
  F_Disk_put : Fun K "put" "Disk.put" s_Disk_put A.Disk_put D.Disk_put
  b_Disk_put : Binds K D.Disk_put ["self", "place", "block"] []
  F_Disk_read : Fun K "read" "Disk.read" s_Disk_read A.Disk_read D.Disk_read
  b_Disk_read : Binds K D.Disk_read ["self", "place"] []
  F_Disk_blocks : Fun K "blocks" "Disk.blocks" s_Disk_blocks A.Disk_blocks D.Disk_blocks
  b_Disk_blocks : Binds K D.Disk_blocks ["self"] []
  F_Disk_synced : Fun K "synced" "Disk.synced" s_Disk_synced A.Disk_synced D.Disk_synced
  b_Disk_synced : Binds K D.Disk_synced ["self"] []
  F_Disk_fallen : Fun K "fallen" "Disk.fallen" s_Disk_fallen A.Disk_fallen D.Disk_fallen
  b_Disk_fallen : Binds K D.Disk_fallen ["self", "kept"] []
  F_Disk_len : Fun K "__len__" "Disk.__len__" s_Disk_len A.Disk_len D.Disk_len
  b_Disk_len : Binds K D.Disk_len ["self"] []
  F_Disk_eq : Fun K "__eq__" "Disk.__eq__" s_Disk_eq A.Disk_eq D.Disk_eq
  b_Disk_eq : Binds K D.Disk_eq ["self", "other"] []
  F_Disk_str : Fun K "__str__" "Disk.__str__" s_Disk_str A.Disk_str D.Disk_str
  b_Disk_str : Binds K D.Disk_str ["self"] []
  g_made : mg "_made" = some (.ref A.made)
  F_made : Fun K "_made" "_made" s_made A.made D.made
  b_made : Binds K D.made ["sure", "waiting"] []
  g_behind : mg "_behind" = some (.ref A.behind)
  F_behind : Fun K "_behind" "_behind" s_behind A.behind D.behind
  b_behind : Binds K D.behind ["sure", "puts"] []
  g_law_dice : mg "_law_dice" = some (.ref A.law_dice)
  F_law_dice : Fun K "_law_dice" "_law_dice" s_law_dice A.law_dice D.law_dice
  b_law_dice : Binds K D.law_dice ["script", "spot"] []
  g_law_roll : mg "_law_roll" = some (.ref A.law_roll)
  F_law_roll : Fun K "_law_roll" "_law_roll" s_law_roll A.law_roll D.law_roll
  b_law_roll : Binds K D.law_roll ["dice", "most"] []
  g_law_pick : mg "_law_pick" = some (.ref A.law_pick)
  F_law_pick : Fun K "_law_pick" "_law_pick" s_law_pick A.law_pick D.law_pick
  b_law_pick : Binds K D.law_pick ["dice", "items"] []
  g_law_block_drawn : mg "_law_block_drawn" = some (.ref A.law_block_drawn)
  F_law_block_drawn : Fun K "_law_block_drawn" "_law_block_drawn" s_law_block_drawn A.law_block_drawn D.law_block_drawn
  b_law_block_drawn : Binds K D.law_block_drawn ["dice"] []
  g_law_is_right : mg "_law_is_right" = some (.ref A.law_is_right)
  F_law_is_right : Fun K "_law_is_right" "_law_is_right" s_law_is_right A.law_is_right D.law_is_right
  b_law_is_right : Binds K D.law_is_right ["disk", "sure", "waiting"] []
  g_law_next : mg "_law_next" = some (.ref A.law_next)
  F_law_next : Fun K "_law_next" "_law_next" s_law_next A.law_next D.law_next
  b_law_next : Binds K D.law_next ["dice", "disk", "sure", "waiting"] []
  g_law_right : mg "_law_right" = some (.ref A.law_right)
  F_law_right : Fun K "_law_right" "_law_right" s_law_right A.law_right D.law_right
  b_law_right : Binds K D.law_right ["dice"] []
  g_law : mg "law" = some (.ref A.law)
  F_law : Fun K "law" "law" s_law A.law D.law
  b_law : Binds K D.law ["script"] []
  g_Disk : mg "Disk" = some (.ref A.Disk)
  cl_Disk : Cls K A.Disk
  mk_Disk : Mk K A.Disk A.Disk_init
  ob_Disk : ObjC K A.Disk
  rd_Disk : ClX.CRead K A.Disk (.type "type")
  kNoneType_Disk : PySem.W.kitOne K (.type "NoneType") (.ref A.Disk) = some false
  fNoneType_Disk : PySem.W.notFirst K A.Disk (.type "NoneType") = true
  ktuple_Disk : PySem.W.kitOne K (.type "tuple") (.ref A.Disk) = some false
  ftuple_Disk : PySem.W.notFirst K A.Disk (.type "tuple") = true
  ne_Disk : PySem.W.findIn K (.ref A.Disk) "__ne__" = some (some (.builtin "object.__ne__"))
  no_Disk_sure : NoAttr K A.Disk "_sure"
  no_Disk_waiting : NoAttr K A.Disk "_waiting"
  m_Disk_init : Meth K A.Disk "__init__" A.Disk_init
  cm_Disk_empty : ∃ p, ClX.CMet K A.Disk (.type "type") "empty" p A.Disk_empty
  p_Disk_sure : ∃ p, PropOf K A.Disk "sure" p A.Disk_sure
  p_Disk_waiting : ∃ p, PropOf K A.Disk "waiting" p A.Disk_waiting
  m_Disk_put : Meth K A.Disk "put" A.Disk_put
  m_Disk_read : Meth K A.Disk "read" A.Disk_read
  m_Disk_blocks : Meth K A.Disk "blocks" A.Disk_blocks
  m_Disk_synced : Meth K A.Disk "synced" A.Disk_synced
  m_Disk_fallen : Meth K A.Disk "fallen" A.Disk_fallen
  m_Disk_len : Meth K A.Disk "__len__" A.Disk_len
  m_Disk_eq : Meth K A.Disk "__eq__" A.Disk_eq
  m_Disk_str : Meth K A.Disk "__str__" A.Disk_str
  c_MAX_NEST : ∃ t, mg "MAX_NEST" = some (.int (12) t)
  c_MAX_STRING : ∃ t, mg "MAX_STRING" = some (.int (3000) t)
  c_MAX_NUMBER : ∃ t, mg "MAX_NUMBER" = some (.int (999999999999999999999999999999999999999999999999999999999999) t)
  c_SIGNS : ∃ t, mg "SIGNS" = some (.str "abcdefghijklmnopqrstuvwxyz0123456789 " t)
  c_MAX_BLOCKS : ∃ t, mg "MAX_BLOCKS" = some (.int (200) t)
  c_MAX_WAITING : ∃ t, mg "MAX_WAITING" = some (.int (400) t)
  b_abs : mg "abs" = none
  b_all : mg "all" = none
  b_bool : mg "bool" = none
  b_int : mg "int" = none
  b_isinstance : mg "isinstance" = none
  b_len : mg "len" = none
  b_list : mg "list" = none
  b_max : mg "max" = none
  b_min : mg "min" = none
  b_range : mg "range" = none
  b_str : mg "str" = none
  b_tuple : mg "tuple" = none
  b_zip : mg "zip" = none
/-! ### values as data -/
inductive D where
  | non | bl (b : Bool) | int (i : Int) | str (s : Str) | tup (ds : List D) | oth
mutual
inductive Rp (K : PySem.W.Frag) (H : Hp) : V → D → Prop where
  | non : Rp K H .non .non
  | bl (b : Bool) : Rp K H (.bl b) (.bl b)
  | int (i : Int) : Rp K H (.int i) (.int i)
  | str (s : Str) : Rp K H (.str s) (.str s)
  | tup {a : Addr} {xs : List V} {ds : List D} : SqT K H a xs → RpAll K H xs ds → Rp K H (.ref a) (.tup ds)
  | lst {a : Addr} {xs : List V} : H a = some (.lst xs) → Rp K H (.ref a) .oth
  | dct {a : Addr} {kvs : List (Key × V)} : H a = some (.dK kvs) → Rp K H (.ref a) .oth
inductive RpAll (K : PySem.W.Frag) (H : Hp) : List V → List D → Prop where
  | nil : RpAll K H [] []
  | cons {v : V} {vs : List V} {d : D} {ds : List D} : Rp K H v d → RpAll K H vs ds → RpAll K H (v :: vs) (d :: ds)
end
section
variable {K : PySem.W.Frag} {H H' : Hp}
mutual
theorem Rp.ex {v : V} {d : D} (e : Ex H H') : Rp K H v d → Rp K H' v d
  | .non => .non
  | .bl b => .bl b
  | .int i => .int i
  | .str s => .str s
  | .tup h r => .tup (ex_t e h) (RpAll.ex e r)
  | .lst h => .lst (e _ _ h)
  | .dct h => .dct (e _ _ h)
theorem RpAll.ex {vs : List V} {ds : List D} (e : Ex H H') : RpAll K H vs ds → RpAll K H' vs ds
  | .nil => .nil
  | .cons h r => .cons (Rp.ex e h) (RpAll.ex e r)
end
theorem RpAll.len {vs : List V} {ds : List D} : RpAll K H vs ds → vs.length = ds.length
  | .nil => rfl
  | .cons _ r => by rw [List.length_cons, List.length_cons, RpAll.len r]
theorem RpAll.inv {v : V} {vs : List V} {ds : List D} (h : RpAll K H (v :: vs) ds) : ∃ d es, ds = d :: es ∧ Rp K H v d ∧ RpAll K H vs es := by
  cases h with
  | cons h r => exact ⟨_, _, rfl, h, r⟩
theorem RpAll.get : ∀ (vs : List V) (ds : List D) (i : Nat) (v : V), RpAll K H vs ds → vs[i]? = some v → ∃ d, ds[i]? = some d ∧ Rp K H v d
  | [], _, _, _, _, h => by simp at h
  | u :: us, ds, 0, v, h, e => by
    have e' := Option.some.inj e
    subst e'
    obtain ⟨d, es, rfl, h1, _⟩ := h.inv
    exact ⟨d, rfl, h1⟩
  | u :: us, ds, i + 1, v, h, e => by
    obtain ⟨d, es, rfl, _, h2⟩ := h.inv
    obtain ⟨c, h3, h4⟩ := RpAll.get us es i v h2 (by simpa using e)
    exact ⟨c, by simpa using h3, h4⟩
theorem RpAll.app {vs ws : List V} {ds es : List D} : RpAll K H vs ds → RpAll K H ws es → RpAll K H (vs ++ ws) (ds ++ es)
  | .nil, s => s
  | .cons h r, s => .cons h (RpAll.app r s)
/-! ### kinds -/
def D.isInt : D → Bool
  | .int _ => true | .bl _ => true | _ => false
def D.isBl : D → Bool
  | .bl _ => true | _ => false
def D.isStr : D → Bool
  | .str _ => true | _ => false
def D.isTup : D → Bool
  | .tup _ => true | _ => false
theorem ty_tup {a : Addr} {xs : List V} (h : SqT K H a xs) : TyX K H (.ref a) (.type "tuple") := by
  rcases h with (h | ⟨o, h⟩) | ⟨o, its, n, lk, c, _⟩
  · exact .base (.tup h)
  · exact .fTuple h
  · exact .kTuple lk c
theorem rc_isi {n : String} {f : D → Bool} (hn : kitB "NoneType" n = some (f .non)) (hb : ∀ b, kitB "bool" n = some (f (.bl b))) (hi : ∀ i, kitB "int" n = some (f (.int i))) (hs : ∀ s, kitB "str" n = some (f (.str s)))
    (ht : ∀ ds, kitB "tuple" n = some (f (.tup ds))) (hl : kitB "list" n = some (f .oth)) (hd : kitB "dict" n = some (f .oth)) {x : V} {d : D} (h : Rp K H x d) : RC (rIsi K) [x, .ty n] H (.bl (f d)) := fun H1 e Q q => by
  have h1 := Rp.ex e h
  cases h1 with
  | non => exact ⟨_, _, _, _, _, rfl, .ty _, .base .non, kit_ty hn, q H1 (Ex.refl _)⟩
  | bl b => exact ⟨_, _, _, _, _, rfl, .ty _, .base (.bl _), kit_ty (hb b), q H1 (Ex.refl _)⟩
  | int i => exact ⟨_, _, _, _, _, rfl, .ty _, .base (.int _), kit_ty (hi i), q H1 (Ex.refl _)⟩
  | str s => exact ⟨_, _, _, _, _, rfl, .ty _, .base (.str _), kit_ty (hs s), q H1 (Ex.refl _)⟩
  | tup h2 _ => exact ⟨_, _, _, _, _, rfl, .ty _, ty_tup h2, kit_ty (ht _), q H1 (Ex.refl _)⟩
  | lst h2 => exact ⟨_, _, _, _, _, rfl, .ty _, .base (.lst h2), kit_ty hl, q H1 (Ex.refl _)⟩
  | dct h2 => exact ⟨_, _, _, _, _, rfl, .ty _, .base (.dK h2), kit_ty hd, q H1 (Ex.refl _)⟩
theorem rc_int {x : V} {d : D} (h : Rp K H x d) : RC (rIsi K) [x, .ty "int"] H (.bl d.isInt) :=
  rc_isi (f := D.isInt) (show kitB "NoneType" "int" = some false by decide +kernel) (fun _ => show kitB "bool" "int" = some true by decide +kernel) (fun _ => show kitB "int" "int" = some true by decide +kernel) (fun _ => show kitB "str" "int" = some false by decide +kernel)
    (fun _ => show kitB "tuple" "int" = some false by decide +kernel) (show kitB "list" "int" = some false by decide +kernel) (show kitB "dict" "int" = some false by decide +kernel) h
theorem rc_bool {x : V} {d : D} (h : Rp K H x d) : RC (rIsi K) [x, .ty "bool"] H (.bl d.isBl) :=
  rc_isi (f := D.isBl) (show kitB "NoneType" "bool" = some false by decide +kernel) (fun _ => show kitB "bool" "bool" = some true by decide +kernel) (fun _ => show kitB "int" "bool" = some false by decide +kernel) (fun _ => show kitB "str" "bool" = some false by decide +kernel)
    (fun _ => show kitB "tuple" "bool" = some false by decide +kernel) (show kitB "list" "bool" = some false by decide +kernel) (show kitB "dict" "bool" = some false by decide +kernel) h
theorem rc_str {x : V} {d : D} (h : Rp K H x d) : RC (rIsi K) [x, .ty "str"] H (.bl d.isStr) :=
  rc_isi (f := D.isStr) (show kitB "NoneType" "str" = some false by decide +kernel) (fun _ => show kitB "bool" "str" = some false by decide +kernel) (fun _ => show kitB "int" "str" = some false by decide +kernel) (fun _ => show kitB "str" "str" = some true by decide +kernel)
    (fun _ => show kitB "tuple" "str" = some false by decide +kernel) (show kitB "list" "str" = some false by decide +kernel) (show kitB "dict" "str" = some false by decide +kernel) h
theorem rc_tup {x : V} {d : D} (h : Rp K H x d) : RC (rIsi K) [x, .ty "tuple"] H (.bl d.isTup) :=
  rc_isi (f := D.isTup) (show kitB "NoneType" "tuple" = some false by decide +kernel) (fun _ => show kitB "bool" "tuple" = some false by decide +kernel) (fun _ => show kitB "int" "tuple" = some false by decide +kernel) (fun _ => show kitB "str" "tuple" = some false by decide +kernel)
    (fun _ => show kitB "tuple" "tuple" = some true by decide +kernel) (show kitB "list" "tuple" = some false by decide +kernel) (show kitB "dict" "tuple" = some false by decide +kernel) h
theorem Rp.isI {x : V} {d : D} (h : Rp K H x d) (h1 : d.isInt = true) (h2 : d.isBl = false) : ∃ i, d = .int i ∧ x = .int i := by
  cases h <;> first | exact ⟨_, rfl, rfl⟩ | (simp [D.isInt] at h1; done) | (simp [D.isBl] at h2; done)
theorem Rp.isS {x : V} {d : D} (h : Rp K H x d) (h1 : d.isStr = true) : ∃ s, d = .str s ∧ x = .str s := by
  cases h <;> first | exact ⟨_, rfl, rfl⟩ | cases h1
theorem Rp.isT {x : V} {d : D} (h : Rp K H x d) (h1 : d.isTup = true) : ∃ a xs ds, d = .tup ds ∧ x = .ref a ∧ SqT K H a xs ∧ RpAll K H xs ds := by
  cases h <;> first | exact ⟨_, _, _, rfl, rfl, by assumption, by assumption⟩ | cases h1
end
/-! ### the promises of pure judges -/
def sp1 (f : D → Bool) (K : PySem.W.Frag) : Sp := fun vs H Q _ => ∃ x d, vs = [x] ∧ Rp K H x d ∧ RetV (.bl (f d)) H Q
theorem sp1_len {f : D → Bool} {K : PySem.W.Frag} {vs : List V} {H : Hp} {Q : VK} {E : XK} (h : sp1 f K vs H Q E) : vs.length = 1 := by
  obtain ⟨x, d, rfl, _⟩ := h
  rfl
theorem sv1 {f : D → Bool} {K : PySem.W.Frag} {H : Hp} {x : V} {d : D} (h : Rp K H x d) : SpV (sp1 f K) [x] H (.bl (f d)) := fun H1 e Q q E => ⟨x, d, rfl, h.ex e, q⟩
abbrev big : Int := 10 ^ 60 - 1
def numB (i : Int) : Bool := decide (-big ≤ i) && decide (i ≤ big)
def D.num : D → Bool
  | .int i => numB i | _ => false
section
variable {P : Program} {w : World} {K : PySem.W.Frag} {mg : Str → Option Value} {base : Heap} {A : Ad} {D : Fd}
abbrev sp_is_number (K : PySem.W.Frag) : Sp := sp1 K0.D.num K
theorem len_is_number {vs : List V} {H : Hp} {Q : VK} {E : XK} (h : sp_is_number K vs H Q E) : vs.length = 1 := sp1_len h
/-- a chain a <= b <= c of ints -/
theorem ev_chain_le {σ : L2.St} {H : Hp} {ta tb tc : TE} {i j k : Int} (ha : Ev ta σ H (.int i)) (hb : Ev tb σ H (.int j)) (hc : Ev tc σ H (.int k)) :
    Ev (tChain (rI0 fun i j => .bl (decide (i ≤ j))) (rI0 fun i j => .bl (decide (i ≤ j))) ta tb tc) σ H (.bl (decide (i ≤ j) && decide (j ≤ k))) := fun H1 e Q q =>
  ha H1 e _ fun H2 e2 => hb H2 (e.trans e2) _ fun H3 e3 => ⟨i, j, rfl, rfl, _, rfl, by
    by_cases c : i ≤ j
    · rw [if_pos (decide_eq_true c)]
      refine hc H3 ((e.trans e2).trans e3) _ fun H4 e4 => ⟨j, k, rfl, rfl, ?_⟩
      have := q H4 ((e2.trans e3).trans e4)
      rw [decide_eq_true c, Bool.true_and] at this
      exact this
    · rw [if_neg (by rw [decide_eq_false c]; decide)]
      have := q H3 (e2.trans e3)
      rw [decide_eq_false c, Bool.false_and] at this
      exact this⟩
theorem ok_is_number (T : Txt K mg A D) : FnOk P w K mg base CX0 1 A.is_number D.is_number ["value"] (sp_is_number K) := by
  obtain ⟨t_MAX_NUMBER, c_MAX_NUMBER⟩ := T.c_MAX_NUMBER
  refine T.F_is_number.ok sc_is_number (fun vs H Q E h => len_is_number h) (fun cdv A0 outer s H vs Q E hr h => ?_)
  refine ⟨_, (pss_cons (ps_if (PW.pt (pw_or (pt_not (pt_val (pe_callB call_isi (by rfl) T.b_isinstance (by decide +kernel) (pa_cons (pv 0) (pa_cons (pe_bltn (v := .ty "int") (u := .type "int") (by rfl) T.b_int (by decide +kernel) rfl) pa_nil))))) (pw_or1 (pt_val (pe_callB call_isi (by rfl) T.b_isinstance (by decide +kernel) (pa_cons (pv 0) (pa_cons (pe_bltn (v := .ty "bool") (u := .type "bool") (by rfl) T.b_bool (by decide +kernel) rfl) pa_nil))))))) (pss_one (ps_ret pe_bl)) pss_nil)
  (pss_one (ps_ret (pe_chain op_le op_le (pe_un un_neg (pe_glob (v := .int (999999999999999999999999999999999999999999999999999999999999)) rfl c_MAX_NUMBER ⟨_, rfl⟩)) (pv 0) (pe_glob (v := .int (999999999999999999999999999999999999999999999999999999999999)) rfl c_MAX_NUMBER ⟨_, rfl⟩))))), ?_⟩
  obtain ⟨x, d, rfl, hx, k⟩ := h
  refine q_when (et_or (et_not (et_B (ev_cb (ea_cons (ev_var rfl) (ea_cons ev_c ea_nil)) (rc_int hx)))) fun _ => et_B (ev_cb (ea_cons (ev_var rfl) (ea_cons ev_c ea_nil)) (rc_bool hx))) (fun hb H1 e1 => ?_) (fun hb H1 e1 => ?_)
  · refine s_ret ev_c fun H2 e2 => ?_
    have hf : K0.D.num d = false := by cases d <;> first | rfl | simp [K0.D.isInt, K0.D.isBl] at hb
    have := k H2 (e1.trans e2)
    rw [hf] at this
    exact this
  · have h1 : K0.D.isInt d = true := by cases z : K0.D.isInt d <;> rw [z] at hb <;> simp at hb <;> rfl
    have h2 : K0.D.isBl d = false := by cases z : K0.D.isBl d <;> rw [z] at hb <;> simp at hb <;> rfl
    obtain ⟨i, rfl, rfl⟩ := hx.isI h1 h2
    refine s_ret (ev_chain_le (i := -big) (j := i) (k := big) (ev_un ev_c ru_neg) (ev_var rfl) ev_c) fun H2 e2 => ?_
    exact k H2 (e1.trans e2)
end
end K0

namespace K0
open PySem L2 Evl
open PySem.Builtin.Str (strSub)
/-! ### texts -/
theorem takeWhile_le {α : Type} (p : α → Bool) : ∀ l : List α, (l.takeWhile p).length ≤ l.length
  | [] => Nat.le_refl _
  | a :: l => by
    rw [List.takeWhile_cons]
    split
    · simp only [List.length_cons]
      have := takeWhile_le p l
      omega
    · simp
theorem takeWhile_all {α : Type} (p : α → Bool) : ∀ l : List α, (l.takeWhile p).length = l.length → l.all p = true
  | [], _ => rfl
  | a :: l, h => by
    rw [List.takeWhile_cons] at h
    split at h
    · rename_i ha
      simp only [List.length_cons] at h
      rw [List.all_cons, ha, takeWhile_all p l (by omega)]
      rfl
    · simp at h
theorem all_takeWhile {α : Type} (p : α → Bool) : ∀ l : List α, l.all p = true → l.takeWhile p = l
  | [], _ => rfl
  | a :: l, h => by
    rw [List.all_cons, Bool.and_eq_true] at h
    rw [List.takeWhile_cons, if_pos h.1, all_takeWhile p l h.2]
theorem drop_takeWhile {α : Type} (p : α → Bool) : ∀ l : List α, (l.drop (l.takeWhile p).length).all p = true → l.all p = true
  | [], _ => rfl
  | a :: l, h => by
    rw [List.takeWhile_cons] at h
    split at h
    · rename_i ha
      rw [List.all_cons, ha, drop_takeWhile p l (by simpa using h)]
      rfl
    · simpa using h
theorem str_nil {x : Str} : x = ("" : Str) ↔ x.cps.toList.length = 0 := by
  constructor
  · intro h
    subst h
    decide +kernel
  · intro h
    obtain ⟨⟨l⟩⟩ := x
    cases l with
    | nil => decide +kernel
    | cons a l => simp at h
theorem strip_all (x y : Str) : decide (V.str (Txt.stripChars x y) = V.str "") = x.cps.toList.all y.cps.contains := by
  have key : (Txt.stripChars x y = ("" : Str)) ↔ x.cps.toList.all y.cps.contains = true := by
    unfold Txt.stripChars
    rw [PySem.W.stripBy_eq]
    show strSub x (stripLo y.cps.contains true x) (stripHi y.cps.contains true x (stripLo y.cps.contains true x)) = ("" : Str) ↔ _
    rw [str_nil]
    have e1 : stripLo y.cps.contains true x = (x.cps.toList.takeWhile y.cps.contains).length := rfl
    have e2 : stripHi y.cps.contains true x (stripLo y.cps.contains true x) = x.cps.toList.length - ((x.cps.toList.drop (stripLo y.cps.contains true x)).reverse.takeWhile y.cps.contains).length := by
      show x.cps.size - _ = _
      rw [Array.length_toList] <;> rfl
    have e3 : (strSub x (stripLo y.cps.contains true x) (stripHi y.cps.contains true x (stripLo y.cps.contains true x))).cps.toList.length = min (stripHi y.cps.contains true x (stripLo y.cps.contains true x)) x.cps.toList.length - stripLo y.cps.contains true x := by
      show (x.cps.extract _ _).toList.length = _
      rw [Array.length_toList, Array.size_extract, Array.length_toList]
    rw [e3, e2, e1]
    generalize x.cps.toList = l
    generalize y.cps.contains = p
    have h1 := takeWhile_le p l
    have h2 := takeWhile_le p (l.drop (l.takeWhile p).length).reverse
    rw [List.length_reverse, List.length_drop] at h2
    constructor
    · intro h
      have h3 : ((l.drop (l.takeWhile p).length).reverse.takeWhile p).length = (l.drop (l.takeWhile p).length).reverse.length := by
        rw [List.length_reverse, List.length_drop]
        omega
      have h4 := takeWhile_all p _ h3
      rw [List.all_reverse] at h4
      exact drop_takeWhile p l h4
    · intro h
      have h3 := all_takeWhile p l h
      rw [h3, List.drop_length]
      simp
  by_cases c : x.cps.toList.all y.cps.contains = true
  · rw [c]
    exact decide_eq_true (congrArg V.str (key.mpr c))
  · rw [Bool.not_eq_true] at c
    rw [c]
    refine decide_eq_false fun q => ?_
    have := key.mp (V.str.inj q)
    rw [c] at this
    cases this
/-! ### more of what evaluates to what -/
section
variable {K : PySem.W.Frag} {σ : L2.St} {H H' : Hp} {ta tb te tx : TE} {t u : TT} {x y z v : V}
/-- a tuple with these items, new or not -/
def EvW (K : PySem.W.Frag) (te : TE) (σ : L2.St) (H : Hp) (xs : List V) : Prop := ∀ H1, Ex H H1 → ∀ Q : VK, (∀ p H2, Ex H1 H2 → SqT K H2 p xs → Q (.ref p) H2) → te σ H1 Q
theorem ew_sl {tl th : TO} {a : Addr} {xs : List V} {lo hi : Option Int} (h : Ev te σ H (.ref a)) (h1 : EvO tl σ H lo) (h2 : EvO th σ H hi) (hs : SqT K H a xs) : EvW K (tSl (rSlA K) te tl th) σ H (cutV xs lo hi) := fun H1 e Q q =>
  h H1 e _ fun H2 e2 => h1 H2 (e.trans e2) _ fun H3 e3 => h2 H3 ((e.trans e2).trans e3) _ fun H4 e4 => by
    have hx := ex_t (((e.trans e2).trans e3).trans e4) hs
    refine ⟨a, xs, rfl, hx, fun hw => ?_, fun _ p hp => ?_⟩
    · refine q a H4 ((e2.trans e3).trans e4) ?_
      have : cutV xs lo hi = xs := by
        unfold cutV
        rw [hw.1, hw.2]
        simp
      rw [this]
      exact hx
    · exact q p _ (((e2.trans e3).trans e4).trans (Ex.new hp)) (st_of upd_same)
/-- comprehensions over a tuple, over zip of two tuples -/
theorem el_lcT {a : Addr} {xs : List V} {tl : TE} {j : Nat} {vs : List Nat} (f : Nat → Bool) (v : Nat → V) (h : Ev tl σ H (.ref a)) (hx : SqT K H a xs) (hz : xs.length ≤ 40000) (hw : ∀ x, wipe ((wipe σ vs).set j (some x)) vs = wipe σ vs)
    (ht : ∀ (i : Nat) (x : V) H1, Ex H H1 → xs[i]? = some x → EvT t ((wipe σ vs).set j (some x)) H1 (f i)) (he : ∀ (i : Nat) (x : V) H1, Ex H H1 → xs[i]? = some x → f i = true → Ev te ((wipe σ vs).set j (some x)) H1 (v i)) :
    EvL (tLc (iTup K tl) (gName j) t te vs) σ H (given xs.length f v) := fun H0 e Q q => h H0 e _ fun H1 e1 => ⟨a, rfl, ⟨xs, ex_t (e.trans e1) hx⟩, fun Dl hD =>
  lc_tup (xs := xs) (Cw H1 f v Dl) ⟨hD, Ex.new hD, upd_same⟩ (fun i H' _ p => ex_t ((e.trans e1).trans p.2.1) hx)
    (fun i x H' hi p => ⟨hw x, cw_turn p (by have := (List.getElem?_eq_some_iff.mp hi).1; omega) (ht i x H1 (e.trans e1) hi) (fun hf => he i x H1 (e.trans e1) hi hf)⟩)
    (fun H' p => q Dl H' (fresh_back e1 p.1) (e1.trans p.2.1) p.2.2)⟩
theorem walk_zipT {a b : Addr} {xs ys : List V} {n : Nat} (hn : n = min xs.length ys.length) : Walk (RZ.ItzT K a b) n (fun H => SqT K H a xs ∧ SqT K H b ys) (YPair (fun i => xs[i]?) (fun i => ys[i]?)) := by
  subst hn
  refine ⟨fun i _ hi g => ?_, fun _ g => ⟨xs, ys, g.1, g.2, by omega⟩, fun i H v H' _ g yy => ?_⟩
  · have l1 : i < xs.length := by omega
    have l2 : i < ys.length := by omega
    exact ⟨xs, ys, xs[i], ys[i], g.1, g.2, List.getElem?_eq_getElem l1, List.getElem?_eq_getElem l2⟩
  · obtain ⟨T, x, z, e1, e2, e3, e4, e5⟩ := yy
    exact ⟨T, x, z, e1, e2, e3, e4 xs g.1, e5 ys g.2⟩
theorem given_map {n : Nat} {f : Nat → Bool} {v : Nat → V} (hf : ∀ i, f i = true) : given n f v = (List.range n).map v := by
  unfold given
  rw [List.filter_eq_self.mpr (fun a _ => hf a)]
theorem rc_all {a : Addr} {bs : List Bool} (h : SqL K H a (bs.map V.bl)) : RC (rAll K) [.ref a] H (.bl (bs.all id)) := fun H1 e Q q => ⟨a, bs, rfl, ex_l e h, q H1 (Ex.refl _)⟩
/-- all([..]) of a new list of truths -/
theorem ev_all {bs : List Bool} (h : EvL te σ H (bs.map V.bl)) : Ev (tCB (rAll K) (tCons te tNil)) σ H (.bl (bs.all id)) := fun H1 e Q q =>
  h H1 e _ fun p H2 _ e2 h2 => ⟨p, bs, rfl, sq_of h2, q H2 e2⟩
theorem et_yes : EvT tYes σ H true := fun H1 _ _ q => q H1 (Ex.refl _)
end
end K0

namespace K0
open PySem L2 Evl
section
variable {K : PySem.W.Frag} {σ : L2.St} {H H' : Hp} {ta tb te tx : TE} {t u : TT} {x y z v : V}
theorem ev_chain_of {σ : L2.St} {H : Hp} {ta tb tc : TE} {r r' : R2} {x y z : V} {a b : Bool} (ha : Ev ta σ H x) (hb : Ev tb σ H y) (hr : RV r x y H (.bl a)) (hc : Ev tc σ H z) (hr' : RV r' y z H (.bl b)) :
    Ev (tChain r r' ta tb tc) σ H (.bl (a && b)) := fun H1 e Q q =>
  ha H1 e _ fun H2 e2 => hb H2 (e.trans e2) _ fun H3 e3 => hr H3 ((e.trans e2).trans e3) _ fun H4 e4 => ⟨a, rfl, by
    cases a with
    | true => exact hc H4 (((e.trans e2).trans e3).trans e4) _ fun H5 e5 => hr' H5 ((((e.trans e2).trans e3).trans e4).trans e5) Q fun H6 e6 => q H6 ((((e2.trans e3).trans e4).trans e5).trans e6)
    | false => exact q H4 ((e2.trans e3).trans e4)⟩
theorem ev_one (h : Ev te σ H v) : Ev te σ H v := h
theorem rc_lenT {a : Addr} {xs : List V} (h : SqT K H a xs) : RC (fun xs H Q => ∃ x n, xs = [x] ∧ LenV K x H n ∧ Q (.int n) H) [.ref a] H (.int (xs.length : Nat)) := fun H1 e Q q =>
  ⟨_, xs.length, rfl, Or.inr ⟨xs, ex_t e h, rfl⟩, q H1 (Ex.refl _)⟩
theorem rc_lenL {a : Addr} {xs : List V} (h : SqL K H a xs) : RC (fun xs H Q => ∃ x n, xs = [x] ∧ LenV K x H n ∧ Q (.int n) H) [.ref a] H (.int (xs.length : Nat)) := fun H1 e Q q =>
  ⟨_, xs.length, rfl, Or.inl ⟨xs, ex_l e h, rfl⟩, q H1 (Ex.refl _)⟩
theorem rc_lenS {s : Str} (h : s.length ≤ sizeLine) : RC (fun xs H Q => ∃ x n, xs = [x] ∧ LenV K x H n ∧ Q (.int n) H) [.str s] H (.int (s.length : Nat)) := fun H1 e Q q =>
  ⟨_, s.length, rfl, ⟨h, rfl⟩, q H1 (Ex.refl _)⟩
/-- a comprehension over zip of two tuples, no test -/
theorem el_lcZ {a : Addr} {xs ys : List V} {t1 t2 : TE} {g : TG} {vs : List Nat} {n : Nat} (v : Nat → V) (h1 : Ev t1 σ H (.ref a)) (hx : SqT K H a xs) (h2 : EvW K t2 σ H ys) (hn : n = min xs.length ys.length) (hz : n ≤ 40000)
    (hg : ∀ i x y T H', xs[i]? = some x → ys[i]? = some y → H' T = some (.tup [x, y]) → ∃ σ2, (∀ k : L2.St → Hp → Prop, k σ2 H' → g (.ref T) (wipe σ vs) H' k) ∧ wipe σ2 vs = wipe σ vs ∧ Ev te σ2 H (v i)) :
    EvL (tLc (RZ.iZipA K (tCons t1 (tCons t2 tNil))) g tYes te vs) σ H ((List.range n).map v) := fun H0 e Q q =>
  h1 H0 e _ fun H1 e1 => h2 H1 (e.trans e1) _ fun b H2 e2 hy => ⟨a, b, xs, ys, rfl, Or.inr ⟨ex_t ((e.trans e1).trans e2) hx, hy, fun Dl hD => by
    have e02 := (e.trans e1).trans e2
    refine lc_it (walk_zipT hn) (Cw H2 (fun _ => true) v Dl) ⟨hD, Ex.new hD, upd_same⟩ (fun i H' _ p => ⟨ex_t p.2.1 (ex_t e02 hx), ex_t p.2.1 hy⟩) (fun i w H' H'' hi p yp => ?_) (fun H' p => ?_)
    · obtain ⟨T, x, y, rfl, hT, rfl, ex, ey⟩ := yp
      obtain ⟨σ2, k1, k2, k3⟩ := hg i x y T (upd H' T (.tup [x, y])) ex ey upd_same
      have hne : Dl ≠ T := ne_of_none p.2.2 hT
      have p' : Cw H2 (fun _ => true) v Dl i (upd H' T (.tup [x, y])) := ⟨p.1, p.2.1.trans (Ex.new hT), by rw [upd_ne hne]; exact p.2.2⟩
      exact k1 _ ⟨k2, cw_turn p' (by omega) et_yes (fun _ => k3.mono e02)⟩
    · have := p.2.2
      rw [given_map (fun _ => rfl)] at this
      exact q Dl H' (fresh_back (e1.trans e2) p.1) ((e1.trans e2).trans p.2.1) this⟩⟩
theorem rv_le {i j : Int} : RV (rI0 fun i j => .bl (decide (i ≤ j))) (.int i) (.int j) H (.bl (decide (i ≤ j))) := rv_I0
theorem rv_lt {i j : Int} : RV (rI0 fun i j => .bl (decide (i < j))) (.int i) (.int j) H (.bl (decide (i < j))) := rv_I0
theorem rv_isN : RV (fun x y H Q => y = .non ∧ Q (.bl (decide (x = .non))) H) x .non H (.bl (decide (x = .non))) := fun H1 _ _ q => ⟨rfl, q H1 (Ex.refl _)⟩
theorem rc_strip {a b : Str} (h : a.length ≤ sizeLine) : ∀ H1, Ex H H1 → ∀ Q : VK, (∀ H2, Ex H1 H2 → Q (.str (Txt.stripChars a b)) H2) → (fun (x : V) (xs : List V) (H : Hp) (Q : VK) => ∃ a b, x = .str a ∧ xs = [.str b] ∧ a.length ≤ sizeLine ∧ Q (.str (Txt.stripChars a b)) H) (.str a) [.str b] H1 Q :=
  fun H1 _ _ q => ⟨a, b, rfl, rfl, h, q H1 (Ex.refl _)⟩
end
/-! ### the judges of stage 1 as functions of data -/
def D.within (lo hi : Int) : D → Bool
  | .int i => numB i && (decide (lo ≤ i) && decide (i ≤ hi)) | _ => false
def D.toInt : D → Int
  | .int i => i | _ => 0
def ascB : List Int → Bool
  | a :: b :: r => decide (a < b) && ascB (b :: r)
  | _ => true
def D.indices (m : Int) : D → Bool
  | .tup ds => ds.all (D.within 0 (m - 1)) && ascB (ds.map D.toInt) | _ => false
def D.circle : D → Bool
  | .tup ds => D.indices 9 (.tup ds) && (decide (1 ≤ ds.length) && decide (ds.length ≤ 7)) | _ => false
def D.word (signs : Str) (most : Int) : D → Bool
  | .str s => decide ((s.length : Int) ≤ most) && s.cps.toList.all signs.cps.contains | _ => false
def D.nonEmpty : D → Bool
  | .str s => decide (0 < s.length) | _ => false
abbrev letters : Str := "abcdefghijklmnopqrstuvwxyz"
abbrev signs37 : Str := "abcdefghijklmnopqrstuvwxyz0123456789 "
def D.key (d : D) : Bool := d.word letters 8 && d.nonEmpty
def D.short (d : D) : Bool := d.within (-(999999999999)) 999999999999
def D.value (d : D) : Bool := d.short || d.word signs37 12
def D.single : D → Bool
  | .non => true
  | .int i => numB i
  | .str s => D.word signs37 3000 (.str s)
  | _ => false
/-- plain, at most n deep -/
def D.plain : Nat → D → Bool
  | 0, d => d.single
  | n + 1, .tup ds => ds.all (D.plain n)
  | _ + 1, d => d.single
def D.small : D → Prop
  | .tup ds => ds.length ≤ 40000 | _ => True
theorem all_getD (ds : List D) (f : D → Bool) : ((List.range ds.length).all fun i => f (ds.getD i .non)) = ds.all f := by
  induction ds with
  | nil => rfl
  | cons d ds ih =>
    rw [List.length_cons, List.range_succ_eq_map, List.all_cons, List.all_cons, List.all_map, ← ih]
    rfl
theorem ints_of {K : PySem.W.Frag} {H : Hp} {lo hi : Int} : ∀ (xs : List V) (ds : List D), RpAll K H xs ds → ds.all (D.within lo hi) = true → xs = (ds.map D.toInt).map V.int
  | _, _, .nil, _ => rfl
  | _, _, .cons (d := d) h r, e => by
    rw [List.all_cons, Bool.and_eq_true] at e
    rw [List.map_cons, List.map_cons, ← ints_of _ _ r e.2]
    cases h with
    | int i => rfl
    | _ => exact absurd e.1 (by simp [D.within])
section
variable {P : Program} {w : World} {K : PySem.W.Frag} {mg : Str → Option Value} {base : Heap} {A : Ad} {D : Fd}
def sp_is_within (K : PySem.W.Frag) : Sp := fun vs H Q _ => ∃ x d lo hi, vs = [x, .int lo, .int hi] ∧ Rp K H x d ∧ RetV (.bl (d.within lo hi)) H Q
theorem len_is_within {vs : List V} {H : Hp} {Q : VK} {E : XK} (h : sp_is_within K vs H Q E) : vs.length = 3 := by
  obtain ⟨x, d, lo, hi, rfl, _⟩ := h
  rfl
theorem sv_within {H : Hp} {x : V} {d : K0.D} {lo hi : Int} (h : Rp K H x d) : SpV (sp_is_within K) [x, .int lo, .int hi] H (.bl (d.within lo hi)) := fun H1 e Q q E => ⟨x, d, lo, hi, rfl, h.ex e, q⟩
theorem ok_is_within (T : Txt K mg A D) : FnOk P w K mg base CX0 2 A.is_within D.is_within ["value", "least", "most"] (sp_is_within K) := by
  have G_is_number : FnOk P w K mg base CX0 1 A.is_number D.is_number ["value"] (sp_is_number K) := ok_is_number T
  refine T.F_is_within.ok sc_is_within (fun vs H Q E h => len_is_within h) (fun cdv A0 outer s H vs Q E hr h => ?_)
  refine ⟨_, (pss_one (ps_ret (pe_and (pe_call G_is_number (hr.mono (by decide)) rfl T.g_is_number T.F_is_number.kp T.b_is_number .nil pass0 (pa_cons (pv 0) pa_nil)) (pe_one (pe_chain op_le op_le (pv 1) (pv 0) (pv 2)))))), ?_⟩
  obtain ⟨x, d, lo, hi, rfl, hx, k⟩ := h
  refine s_ret (ev_is (ev_andV (a := d.num) (b := d.within lo hi) (ev_call (ea_cons (ev_var rfl) ea_nil) (sv1 hx)) fun hb => ?_) ?_) fun H2 e2 => k H2 e2
  · cases hx with
    | int i =>
      have hb' : numB i = true := hb
      refine ev_is (ev_chain_le (i := lo) (j := i) (k := hi) (ev_var rfl) (ev_var rfl) (ev_var rfl)) ?_
      show V.bl (decide (lo ≤ i) && decide (i ≤ hi)) = V.bl (numB i && (decide (lo ≤ i) && decide (i ≤ hi)))
      rw [hb', Bool.true_and]
    | _ => cases hb
  · cases d with
    | int i =>
      show V.bl (numB i && (numB i && _)) = V.bl (numB i && _)
      cases numB i <;> rfl
    | _ => rfl
/-- row: a tuple of ints -/
def sp_are_ascending (K : PySem.W.Frag) : Sp := fun vs H Q _ => ∃ a ns, vs = [.ref a] ∧ SqT K H a (ns.map V.int) ∧ ns.length ≤ 40000 ∧ RetV (.bl (ascB ns)) H Q
theorem len_are_ascending {vs : List V} {H : Hp} {Q : VK} {E : XK} (h : sp_are_ascending K vs H Q E) : vs.length = 1 := by
  obtain ⟨a, ns, rfl, _⟩ := h
  rfl
theorem sv_asc {H : Hp} {a : Addr} {ns : List Int} (h : SqT K H a (ns.map V.int)) (hl : ns.length ≤ 40000) : SpV (sp_are_ascending K) [.ref a] H (.bl (ascB ns)) := fun H1 e Q q E => ⟨a, ns, rfl, ex_t e h, hl, q⟩
theorem cut1 (xs : List V) : cutV xs (some 1) none = xs.drop 1 := by
  unfold cutV
  have h1 : HT.sIx xs.length 0 (some 1) = min 1 xs.length := HT.sIx_nat _ _ 1
  have h2 : HT.sIx xs.length xs.length none = xs.length := rfl
  rw [h1, h2]
  cases xs with
  | nil => rfl
  | cons x xs =>
    have : min 1 (x :: xs).length = 1 := by simp
    rw [this]
    exact List.take_of_length_le (by simp)
theorem asc_all : ∀ ns : List Int, ((List.range (ns.length - 1)).map fun i => decide (ns.getD i 0 < ns.getD (i + 1) 0)).all id = ascB ns
  | [] => rfl
  | [a] => rfl
  | a :: b :: r => by
    have ih := asc_all (b :: r)
    have e1 : (a :: b :: r).length - 1 = ((b :: r).length - 1) + 1 := by simp
    rw [e1, List.range_succ_eq_map, List.map_cons, List.all_cons, List.map_map]
    show (decide (a < b) && _) = (decide (a < b) && ascB (b :: r))
    rw [← ih]
    rfl
theorem ok_are_ascending (T : Txt K mg A D) : FnOk P w K mg base CX0 1 A.are_ascending D.are_ascending ["row"] (sp_are_ascending K) := by
  refine T.F_are_ascending.ok sc_are_ascending (fun vs H Q E h => len_are_ascending h) (fun cdv A0 outer s H vs Q E hr h => ?_)
  refine ⟨_, (pss_one (ps_ret (pe_callB (cr_all rfl) (by rfl) T.b_all (by decide +kernel) (pa_cons (pe_lc (own := [("one", 1), ("other", 2)]) (g := gTup K 2 (gCons (gName 1) (gCons (gName 2) gNil))) (tt := tYes) rfl sc_are_ascending.nd (RZ.pi_zipA (by rfl) T.b_zip (pa_cons (pv 0) (pa_cons (pe_slice sl_tupA (pv 0) (po_some pe_int) po_none) pa_nil))) (blkOk_by (own := [("one", 1), ("other", 2)]) (N := N_are_ascending) (sc := defScope s_are_ascending) (by decide +kernel)) (fun _ _ _ _ _ => by exact (pg_tup rfl (pgs_cons (pg_name (i := 1) sc_are_ascending.nd rfl (Or.inl rfl)) (pgs_cons (pg_name (i := 2) sc_are_ascending.nd rfl (Or.inl rfl)) pgs_nil)))) (fun _ _ _ _ _ => by exact pts_nil) (fun _ _ _ _ _ => by exact (pe_cmpR op_lt (pv 1) (pv 2) (nomark _)))) pa_nil)))), ?_⟩
  obtain ⟨a, ns, rfl, ha, hl, k⟩ := h
  refine s_ret (ev_is (ev_all (bs := (List.range (ns.length - 1)).map fun i => decide (ns.getD i 0 < ns.getD (i + 1) 0)) ?_) (congrArg V.bl (asc_all ns))) fun H2 e2 => k H2 e2
  rw [List.map_map]
  refine el_lcZ (ys := (ns.map V.int).drop 1) _ (ev_var rfl) ha ?_ (by rw [List.length_drop, List.length_map]; omega) (by omega) (fun i x y T H' hx hy hT => ?_)
  · have := ew_sl (K := K) (lo := some 1) (hi := none) (ev_var rfl : Ev (tVar 0) (start N_are_ascending [V.ref a]) H (.ref a)) (eo_some ev_c) eo_none ha
    rw [cut1] at this
    exact this
  · rw [List.getElem?_map] at hx
    rw [List.getElem?_drop, List.getElem?_map, Nat.add_comm] at hy
    obtain ⟨p, hp, rfl⟩ : ∃ p, ns[i]? = some p ∧ V.int p = x := by
      cases z : ns[i]? with
      | none => rw [z] at hx; cases hx
      | some p => rw [z] at hx; exact ⟨p, rfl, Option.some.inj hx⟩
    obtain ⟨r, hr', rfl⟩ : ∃ p, ns[i + 1]? = some p ∧ V.int p = y := by
      cases z : ns[i + 1]? with
      | none => rw [z] at hy; cases hy
      | some p => rw [z] at hy; exact ⟨p, rfl, Option.some.inj hy⟩
    refine ⟨[some (.ref a), some (.int p), some (.int r)], fun kk hk => ⟨T, _, rfl, st_of hT, rfl, _, _, rfl, _, _, rfl, rfl, hk⟩, rfl, ?_⟩
    refine ev_is (ev_op (ev_var rfl) (ev_var rfl) rv_I0) ?_
    show V.bl (decide (p < r)) = V.bl (decide (ns.getD i 0 < ns.getD (i + 1) 0))
    rw [List.getD_eq_getElem?_getD, List.getD_eq_getElem?_getD, hp, hr']
    rfl
def sp_are_indices (K : PySem.W.Frag) : Sp := fun vs H Q _ => ∃ x d m, vs = [x, .int m] ∧ Rp K H x d ∧ d.small ∧ RetV (.bl (d.indices m)) H Q
theorem len_are_indices {vs : List V} {H : Hp} {Q : VK} {E : XK} (h : sp_are_indices K vs H Q E) : vs.length = 2 := by
  obtain ⟨x, d, m, rfl, _⟩ := h
  rfl
theorem sv_indices {H : Hp} {x : V} {d : K0.D} {m : Int} (h : Rp K H x d) (hs : d.small) : SpV (sp_are_indices K) [x, .int m] H (.bl (d.indices m)) := fun H1 e Q q E => ⟨x, d, m, rfl, h.ex e, hs, q⟩
theorem ok_are_indices (T : Txt K mg A D) : FnOk P w K mg base CX0 3 A.are_indices D.are_indices ["value", "many"] (sp_are_indices K) := by
  have G_is_within : FnOk P w K mg base CX0 2 A.is_within D.is_within ["value", "least", "most"] (sp_is_within K) := ok_is_within T
  have G_are_ascending : FnOk P w K mg base CX0 1 A.are_ascending D.are_ascending ["row"] (sp_are_ascending K) := ok_are_ascending T
  refine T.F_are_indices.ok sc_are_indices (fun vs H Q E h => len_are_indices h) (fun cdv A0 outer s H vs Q E hr h => ?_)
  refine ⟨_, (pss_cons (ps_if (pt_not (pt_val (pe_callB call_isi (by rfl) T.b_isinstance (by decide +kernel) (pa_cons (pv 0) (pa_cons (pe_bltn (v := .ty "tuple") (u := .type "tuple") (by rfl) T.b_tuple (by decide +kernel) rfl) pa_nil))))) (pss_one (ps_ret pe_bl)) pss_nil)
  (pss_cons (ps_if (pt_not (pt_val (pe_callB (cr_all rfl) (by rfl) T.b_all (by decide +kernel) (pa_cons (pe_lc (own := [("index", 2)]) (g := gName 2) (tt := tYes) rfl sc_are_indices.nd (pi_tup (pv 0)) (blkOk_by (own := [("index", 2)]) (N := N_are_indices) (sc := defScope s_are_indices) (by decide +kernel)) (fun _ _ _ _ _ => by exact pg_name (i := 2) sc_are_indices.nd rfl (Or.inl rfl)) (fun _ _ _ _ _ => by exact pts_nil) (fun _ _ _ _ _ => by exact (pe_call G_is_within (hr.mono (by decide)) rfl T.g_is_within T.F_is_within.kp T.b_is_within .nil pass0 (pa_cons (pv 2) (pa_cons pe_int (pa_cons (pe_op op_sub (pv 1) pe_int) pa_nil)))))) pa_nil)))) (pss_one (ps_ret pe_bl)) pss_nil)
  (pss_one (ps_ret (pe_call G_are_ascending (hr.mono (by decide)) rfl T.g_are_ascending T.F_are_ascending.kp T.b_are_ascending .nil pass0 (pa_cons (pv 0) pa_nil)))))), ?_⟩
  obtain ⟨x, d, m, rfl, hx, hs, k⟩ := h
  refine q_when (et_not (et_B (ev_cb (ea_cons (ev_var rfl) (ea_cons ev_c ea_nil)) (rc_tup hx)))) (fun hb H1 e1 => ?_) (fun hb H1 e1 => ?_)
  · refine s_ret ev_c fun H2 e2 => ?_
    have hf : d.indices m = false := by cases d <;> first | rfl | (simp [K0.D.isTup] at hb; done)
    have := k H2 (e1.trans e2)
    rw [hf] at this
    exact this
  · have h1 : d.isTup = true := by cases z : d.isTup <;> rw [z] at hb <;> simp at hb <;> rfl
    obtain ⟨a, xs, ds, rfl, rfl, hq, hr1⟩ := hx.isT h1
    have hl := hr1.len
    have hq1 := ex_t e1 hq
    have hr2 := hr1.ex e1
    have hsz : ds.length ≤ 40000 := hs
    refine q_when (b := !(ds.all (K0.D.within 0 (m - 1)))) (et_not (et_B (ev_is (ev_all (bs := (List.range xs.length).map fun i => (ds.getD i .non).within 0 (m - 1)) ?_) ?_))) (fun hb H2 e2 => ?_) (fun hb H2 e2 => ?_)
    · rw [List.map_map, ← given_map (f := fun _ => true) (fun _ => rfl)]
      refine el_lcT (fun _ => true) _ (ev_var rfl) hq1 (by omega) (fun _ => rfl) (fun i y H3 e3 hy => et_yes) (fun i y H3 e3 hy _ => ?_)
      obtain ⟨d, hd, hrp⟩ := RpAll.get _ _ _ _ (hr2.ex e3) hy
      refine ev_is (ev_call (ea_cons (ev_var rfl) (ea_cons ev_c (ea_cons (ev_op (ev_var rfl) ev_c rv_I0) ea_nil))) (sv_within hrp)) ?_
      show V.bl (d.within 0 (m - 1)) = V.bl ((ds.getD i .non).within 0 (m - 1))
      rw [List.getD_eq_getElem?_getD, hd]
      rfl
    · rw [List.all_map, hl]
      congr 1
      exact all_getD ds _
    · refine s_ret ev_c fun H3 e3 => ?_
      have := k H3 ((e1.trans e2).trans e3)
      have hf : (K0.D.tup ds).indices m = false := by
        show (ds.all (K0.D.within 0 (m - 1)) && _) = false
        cases z : ds.all (K0.D.within 0 (m - 1)) with
        | true => rw [z] at hb; cases hb
        | false => rfl
      rw [hf] at this
      exact this
    · have hall : ds.all (K0.D.within 0 (m - 1)) = true := by
        cases z : ds.all (K0.D.within 0 (m - 1)) with
        | true => rfl
        | false => rw [z] at hb; cases hb
      have hints : xs = (ds.map K0.D.toInt).map V.int := ints_of _ _ hr1 hall
      have hq2 : SqT K H2 a ((ds.map K0.D.toInt).map V.int) := by rw [← hints]; exact ex_t (e1.trans e2) hq
      refine s_ret (ev_call (ea_cons (ev_var rfl) ea_nil) (sv_asc hq2 (by rw [List.length_map]; exact hsz))) fun H3 e3 => ?_
      have := k H3 ((e1.trans e2).trans e3)
      have hf : (K0.D.tup ds).indices m = ascB (ds.map K0.D.toInt) := by
        show (ds.all (K0.D.within 0 (m - 1)) && _) = _
        rw [hall, Bool.true_and]
      rw [hf] at this
      exact this
end
end K0

namespace K0
open PySem L2 Evl
section
variable {K : PySem.W.Frag} {σ : L2.St} {H H' : Hp} {ta tb te tx : TE} {t u : TT} {x y z v : V}
theorem et_truL {a : Addr} {xs : List V} (h : Ev te σ H (.ref a)) (hx : SqL K H a xs) : EvT (fun σ H Q => te σ H fun x H' => ∃ k, TruV K x H' k ∧ Q k H') σ H (!xs.isEmpty) := fun H1 e Q q =>
  h H1 e _ fun H2 e2 => ⟨_, Or.inl ⟨xs, ex_l (e.trans e2) hx, rfl⟩, q H2 e2⟩
/-- [y for row in rows for y in row]: rows a list of tuples -/
theorem el_flat {a : Addr} {rs : List Addr} {rows : List (List V)} {tl : TE} {j j1 : Nat} {vs vs1 : List Nat} (h : Ev tl σ H (.ref a)) (hx : SqL K H a (rs.map V.ref)) (hl : rs.length = rows.length)
    (hr : ∀ (i : Nat) r row, rs[i]? = some r → rows[i]? = some row → SqT K H r row) (hz : rows.flatten.length ≤ 40000)
    (hw : ∀ x, wipe ((wipe σ vs).set j (some x)) vs = wipe σ vs) (hj : ∀ x, ((wipe σ vs).set j (some x))[j]? = some (some x))
    (hw1 : ∀ x y, wipe ((wipe ((wipe σ vs).set j (some x)) vs1).set j1 (some y)) vs1 = wipe ((wipe σ vs).set j (some x)) vs1) (hj1 : ∀ x y, ((wipe ((wipe σ vs).set j (some x)) vs1).set j1 (some y))[j1]? = some (some y)) :
    EvL (tLc2 (iList K tl) (gName j) tYes (iTup K (tVar j)) (gName j1) tYes (tVar j1) vs vs1) σ H rows.flatten := fun H0 e Q q =>
  h H0 e _ fun H1 e1 => ⟨a, rfl, ⟨_, ex_l (e.trans e1) hx⟩, fun Dl hD => by
    refine ⟨fun i m H' => m = rs.length - i ∧ i ≤ rs.length ∧ Ex H1 H' ∧ H' Dl = some (.lst (rows.take i).flatten), ⟨rs.length, by simp, Nat.zero_le _, Ex.new hD, upd_same⟩, ?_⟩
    rintro i m H' ⟨rfl, hi, p1, p2⟩
    have hxl := ex_l ((e.trans e1).trans p1) hx
    by_cases hlt : i < rs.length
    · have hlt2 : i < rows.length := by omega
      have g1 : rs[i]? = some rs[i] := List.getElem?_eq_getElem hlt
      have g2 : rows[i]? = some rows[i] := List.getElem?_eq_getElem hlt2
      have et : rows.take (i + 1) = rows.take i ++ [rows[i]] := by rw [List.take_succ, g2] <;> rfl
      have efl : ((rows.take (i + 1)).flatten).length ≤ rows.flatten.length := by
        have : rows.flatten = (rows.take (i + 1)).flatten ++ (rows.drop (i + 1)).flatten := by rw [← List.flatten_append, List.take_append_drop]
        rw [this, List.length_append]
        omega
      have efl2 : ((rows.take (i + 1)).flatten).length = ((rows.take i).flatten).length + rows[i].length := by rw [et, List.flatten_append]; simp
      have hrow := hr i _ _ g1 g2
      refine .inr ⟨⟨rs.map V.ref, .ref rs[i], hxl, by rw [List.getElem?_map, g1]; rfl⟩, fun H2 => Ex H1 H2 ∧ H2 Dl = some (.lst (rows.take (i + 1)).flatten), fun H2 k => ⟨rs.length - (i + 1), by omega, rfl, hlt, k⟩, fun y H2 yy => ?_⟩
      obtain ⟨rfl, yy⟩ := yy
      have ey := yy _ hxl
      rw [List.getElem?_map, g1] at ey
      have ey : V.ref rs[i] = y := Option.some.inj ey
      subst ey
      refine ⟨hw _, ?_⟩
      refine ⟨_, hj _, rs[i], rfl, ⟨_, ex_t ((e.trans e1).trans p1) hrow⟩, fun jj kk H3 => kk = rows[i].length - jj ∧ jj ≤ rows[i].length ∧ Ex H1 H3 ∧ H3 Dl = some (.lst ((rows.take i).flatten ++ rows[i].take jj)), ⟨_, rfl, Nat.zero_le _, p1, by rw [p2]; simp⟩, ?_⟩
      rintro jj kk H3 ⟨rfl, hjj, q1, q2⟩
      have hrow3 := ex_t ((e.trans e1).trans q1) hrow
      by_cases hlj : jj < rows[i].length
      · have g3 : rows[i][jj]? = some rows[i][jj] := List.getElem?_eq_getElem hlj
        refine .inr ⟨⟨rows[i], rows[i][jj], hrow3, g3⟩, fun H4 => Ex H1 H4 ∧ H4 Dl = some (.lst ((rows.take i).flatten ++ rows[i].take (jj + 1))), fun H4 k => ⟨rows[i].length - (jj + 1), by omega, rfl, hlj, k⟩, fun y H4 yy => ?_⟩
        obtain ⟨rfl, yy⟩ := yy
        have ey := yy _ hrow3
        rw [g3] at ey
        have ey : rows[i][jj] = y := Option.some.inj ey
        subst ey
        refine ⟨hw1 _ _, _, hj1 _ _, _, q2, ?_, ?_, ?_⟩
        · have : ((rows.take i).flatten ++ rows[i].take jj).length ≤ 40000 := by rw [List.length_append, List.length_take]; omega
          exact sz_lt (by omega)
        · exact Ex.mut q1 hD
        · rw [upd_same, List.append_assoc, List.take_succ, g3]
          rfl
      · have : jj = rows[i].length := by omega
        subst this
        refine .inl ⟨⟨rows[i], hrow3, Nat.le_refl _⟩, q1, ?_⟩
        rw [q2, et, List.flatten_append, List.take_length]
        simp
    · have : i = rs.length := by omega
      subst this
      refine .inl ⟨⟨_, hxl, by rw [List.length_map]; exact Nat.le_refl _⟩, q Dl H' (fresh_back e1 hD) (e1.trans p1) ?_⟩
      rw [p2, hl, List.take_length]⟩
end
mutual
/-- how much of a value there is: signs and members -/
def D.size : D → Nat
  | .str s => 1 + s.length / 100
  | .tup ds => 1 + D.sizeL ds
  | _ => 1
def D.sizeL : List D → Nat
  | [] => 0
  | d :: ds => d.size + D.sizeL ds
end
theorem sizeL_len : ∀ ds : List D, ds.length ≤ D.sizeL ds
  | [] => Nat.le_refl _
  | d :: ds => by
    have := sizeL_len ds
    have h1 : 1 ≤ d.size := by cases d <;> simp [D.size]
    simp only [List.length_cons, D.sizeL]
    omega
theorem sizeL_app : ∀ ds es : List D, D.sizeL (ds ++ es) = D.sizeL ds + D.sizeL es
  | [], es => by simp [D.sizeL]
  | d :: ds, es => by
    show d.size + D.sizeL (ds ++ es) = d.size + D.sizeL ds + D.sizeL es
    rw [sizeL_app ds es]
    omega
theorem size_mem : ∀ {ds : List D} {d : D}, d ∈ ds → d.size ≤ D.sizeL ds
  | a :: ds, d, h => by
    rcases List.mem_cons.mp h with h | h
    · subst h
      simp only [D.sizeL]
      omega
    · have := size_mem h
      simp only [D.sizeL]
      omega
def D.kids : D → List D
  | .tup ds => ds | _ => []
end K0

namespace K0
open PySem L2 Evl
section
variable {P : Program} {w : World} {K : PySem.W.Frag} {mg : Str → Option Value} {base : Heap} {A : Ad} {D : Fd}
/-- a judge of values that are not too great -/
def spS (f : K0.D → Bool) (K : PySem.W.Frag) : Sp := fun vs H Q _ => ∃ x d, vs = [x] ∧ Rp K H x d ∧ d.size ≤ 30000 ∧ RetV (.bl (f d)) H Q
theorem spS_len {f : K0.D → Bool} {vs : List V} {H : Hp} {Q : VK} {E : XK} (h : spS f K vs H Q E) : vs.length = 1 := by
  obtain ⟨x, d, rfl, _⟩ := h
  rfl
theorem svS {f : K0.D → Bool} {H : Hp} {x : V} {d : K0.D} (h : Rp K H x d) (hs : d.size ≤ 30000) : SpV (spS f K) [x] H (.bl (f d)) := fun H1 e Q q E => ⟨x, d, rfl, h.ex e, hs, q⟩
theorem small_of {d : K0.D} (h : d.size ≤ 30000) : d.small := by
  cases d with
  | tup ds =>
    have := sizeL_len ds
    simp only [K0.D.size] at h
    show ds.length ≤ 40000
    omega
  | _ => trivial
theorem sline {n : Nat} (h : n ≤ 3000000) : n ≤ sizeLine := by rw [sizeLine_eq]; omega
def sp_is_made_of (K : PySem.W.Frag) : Sp := fun vs H Q _ => ∃ x d sg m, vs = [x, .str sg, .int m] ∧ Rp K H x d ∧ d.size ≤ 30000 ∧ RetV (.bl (d.word sg m)) H Q
theorem len_is_made_of {vs : List V} {H : Hp} {Q : VK} {E : XK} (h : sp_is_made_of K vs H Q E) : vs.length = 3 := by
  obtain ⟨x, d, sg, m, rfl, _⟩ := h
  rfl
theorem sv_made {H : Hp} {x : V} {d : K0.D} {sg : Str} {m : Int} (h : Rp K H x d) (hs : d.size ≤ 30000) : SpV (sp_is_made_of K) [x, .str sg, .int m] H (.bl (d.word sg m)) := fun H1 e Q q E => ⟨x, d, sg, m, rfl, h.ex e, hs, q⟩
/-- s.strip(t) -/
theorem ev_strip {σ : L2.St} {H : Hp} {ta tb : TE} {a b : Str} (ha : Ev ta σ H (.str a)) (hb : Ev tb σ H (.str b)) (h : a.length ≤ sizeLine) :
    Ev (tBM K "str" (fun (x : V) (xs : List V) (H : Hp) (Q : VK) => ∃ a b, x = .str a ∧ xs = [.str b] ∧ a.length ≤ sizeLine ∧ Q (.str (Txt.stripChars a b)) H) ta (tCons tb tNil)) σ H (.str (Txt.stripChars a b)) := fun H1 e Q q =>
  ha H1 e _ fun H2 e2 => ⟨rfl, hb H2 (e.trans e2) _ fun H3 e3 => ⟨a, b, rfl, rfl, h, q H3 (e2.trans e3)⟩⟩
theorem ok_is_made_of (T : Txt K mg A D) : FnOk P w K mg base CX0 1 A.is_made_of D.is_made_of ["value", "signs", "most"] (sp_is_made_of K) := by
  refine T.F_is_made_of.ok sc_is_made_of (fun vs H Q E h => len_is_made_of h) (fun cdv A0 outer s H vs Q E hr h => ?_)
  refine ⟨_, (pss_one (ps_ret (pe_and (pe_callB call_isi (by rfl) T.b_isinstance (by decide +kernel) (pa_cons (pv 0) (pa_cons (pe_bltn (v := .ty "str") (u := .type "str") (by rfl) T.b_str (by decide +kernel) rfl) pa_nil))) (pe_and (pe_cmpR op_le (pe_callB call_len (by rfl) T.b_len (by decide +kernel) (pa_cons (pv 0) pa_nil)) (pv 2) (nomark _)) (pe_one (pe_cmpR op_eq (pe_bm PySem.F.plainAttrs_str PySem.F.slot_str_strip PySem.F.type_str_strip mt_stripChars (pv 0) (pa_cons (pv 1) pa_nil)) pe_str (nomark _))))))), ?_⟩
  obtain ⟨x, d, sg, m, rfl, hx, hs, k⟩ := h
  refine s_ret (ev_is (ev_andV (a := d.isStr) (b := d.word sg m) (ev_cb (ea_cons (ev_var rfl) (ea_cons ev_c ea_nil)) (rc_str hx)) fun hb => ?_) ?_) fun H2 e2 => k H2 e2
  · obtain ⟨s, rfl, rfl⟩ := hx.isS hb
    have hl : s.length ≤ sizeLine := sline (by simp only [K0.D.size] at hs; omega)
    refine ev_andV (a := decide ((s.length : Int) ≤ m)) (ev_op (ev_cb (ea_cons (ev_var rfl) ea_nil) (rc_lenS hl)) (ev_var rfl) rv_I0) fun _ => ?_
    refine ev_is (ev_op (ev_strip (ev_var rfl) (ev_var rfl) hl) ev_c (rv_eq rfl)) ?_
    exact congrArg V.bl (strip_all _ _)
  · cases d <;> rfl
def D.isNon : K0.D → Bool
  | .non => true | _ => false
theorem Rp.isN {H : Hp} {x : V} {d : K0.D} (h : Rp K H x d) : decide (x = V.non) = d.isNon := by cases h <;> rfl
def sp_is_single (K : PySem.W.Frag) : Sp := spS K0.D.single K
theorem len_is_single {vs : List V} {H : Hp} {Q : VK} {E : XK} (h : sp_is_single K vs H Q E) : vs.length = 1 := spS_len h
theorem ok_is_single (T : Txt K mg A D) : FnOk P w K mg base CX0 2 A.is_single D.is_single ["value"] (sp_is_single K) := by
  have G_is_number : FnOk P w K mg base CX0 1 A.is_number D.is_number ["value"] (sp_is_number K) := ok_is_number T
  have G_is_made_of : FnOk P w K mg base CX0 1 A.is_made_of D.is_made_of ["value", "signs", "most"] (sp_is_made_of K) := ok_is_made_of T
  obtain ⟨t_MAX_STRING, c_MAX_STRING⟩ := T.c_MAX_STRING
  obtain ⟨t_SIGNS, c_SIGNS⟩ := T.c_SIGNS
  refine T.F_is_single.ok sc_is_single (fun vs H Q E h => len_is_single h) (fun cdv A0 outer s H vs Q E hr h => ?_)
  refine ⟨_, (pss_one (ps_ret (pe_or (pe_cmpR op_isN (pv 0) pe_non (nomark _)) (pe_or (pe_call G_is_number (hr.mono (by decide)) rfl T.g_is_number T.F_is_number.kp T.b_is_number .nil pass0 (pa_cons (pv 0) pa_nil)) (pe_one (pe_call G_is_made_of (hr.mono (by decide)) rfl T.g_is_made_of T.F_is_made_of.kp T.b_is_made_of .nil pass0 (pa_cons (pv 0) (pa_cons (pe_glob (v := .str "abcdefghijklmnopqrstuvwxyz0123456789 ") rfl c_SIGNS ⟨_, rfl⟩) (pa_cons (pe_glob (v := .int (3000)) rfl c_MAX_STRING ⟨_, rfl⟩) pa_nil))))))))), ?_⟩
  obtain ⟨x, d, rfl, hx, hs, k⟩ := h
  refine s_ret (ev_is (ev_orV (a := d.isNon) (b := d.num || d.word signs37 3000) (ev_is (ev_op (ev_var rfl) ev_c rv_isN) (congrArg V.bl hx.isN)) fun _ => ?_) ?_) fun H2 e2 => k H2 e2
  · exact ev_orV (ev_call (ea_cons (ev_var rfl) ea_nil) (sv1 hx)) fun _ => ev_call (ea_cons (ev_var rfl) (ea_cons ev_c (ea_cons ev_c ea_nil))) (sv_made hx hs)
  · cases d with
    | int i =>
      show V.bl (false || (numB i || false)) = V.bl (numB i)
      cases numB i <;> rfl
    | _ => rfl
end
end K0

namespace K0
open PySem L2 Evl
def tupsL : List D → List (List D)
  | [] => []
  | .tup es :: r => es :: tupsL r
  | _ :: r => tupsL r
theorem tupsL_app : ∀ a b : List D, tupsL (a ++ b) = tupsL a ++ tupsL b
  | [], _ => rfl
  | d :: r, b => by
    cases d <;> first | exact congrArg _ (tupsL_app r b) | exact tupsL_app r b
def okTop (d : D) : Bool := d.isTup || d.single
theorem plain_flat {j : Nat} : ∀ ds : List D, ds.all okTop = true → ds.all (D.plain (j + 1)) = (tupsL ds).flatten.all (D.plain j)
  | [], _ => rfl
  | d :: r, h => by
    rw [List.all_cons, Bool.and_eq_true] at h
    have ih := plain_flat (j := j) r h.2
    rw [List.all_cons, ih]
    cases d with
    | tup es =>
      show (es.all (D.plain j) && _) = ((es :: tupsL r).flatten).all _
      rw [List.flatten_cons, List.all_append]
    | non => rfl
    | bl b => exact absurd h.1 (by simp [okTop, D.isTup, D.single])
    | int i =>
      have hs : D.single (.int i) = true := h.1
      show (D.single (.int i) && _) = _
      rw [hs, Bool.true_and]
      rfl
    | str s =>
      have hs : D.single (.str s) = true := h.1
      show (D.single (.str s) && _) = _
      rw [hs, Bool.true_and]
      rfl
    | oth => exact absurd h.1 (by simp [okTop, D.isTup, D.single])
theorem plain_single {n : Nat} {d : D} (h : d.isTup = false) : d.plain n = d.single := by
  cases n <;> cases d <;> first | rfl | cases h
theorem plain_none : ∀ {ds : List D} {n : Nat}, ds.all okTop = true → tupsL ds = [] → ds.all (D.plain n) = true
  | [], _, _, _ => rfl
  | d :: r, n, h, e => by
    rw [List.all_cons, Bool.and_eq_true] at h
    cases ht : d.isTup with
    | true =>
      cases d with
      | tup es => exact absurd e (by simp [tupsL])
      | _ => cases ht
    | false =>
      have h1 : d.single = true := by
        have := h.1
        unfold okTop at this
        rw [ht, Bool.false_or] at this
        exact this
      have e' : tupsL r = [] := by cases d <;> first | exact e | cases ht
      rw [List.all_cons, plain_single ht, h1, Bool.true_and]
      exact plain_none h.2 e'
theorem plain_deep : ∀ {ds : List D}, tupsL ds ≠ [] → ds.all (D.plain 0) = false
  | [], h => absurd rfl h
  | d :: r, h => by
    cases ht : d.isTup with
    | true =>
      cases d with
      | tup es => rfl
      | _ => cases ht
    | false =>
      have h' : tupsL r ≠ [] := by cases d <;> first | exact h | cases ht
      rw [List.all_cons, plain_deep h', Bool.and_false]
theorem size_flat : ∀ ds : List D, D.sizeL (tupsL ds).flatten + (tupsL ds).length ≤ D.sizeL ds
  | [] => Nat.le_refl _
  | d :: r => by
    have ih := size_flat r
    cases d with
    | tup es =>
      show D.sizeL (es :: tupsL r).flatten + (tupsL r).length.succ ≤ D.size (.tup es) + D.sizeL r
      rw [List.flatten_cons, sizeL_app]
      simp only [D.size]
      omega
    | _ =>
      simp only [D.sizeL]
      show D.sizeL (tupsL r).flatten + (tupsL r).length ≤ _
      omega
theorem tups_nil_empty : D.sizeL ([] : List D) = 0 := rfl
inductive Rows (K : PySem.W.Frag) (H : Hp) : List Addr → List (List V) → List (List D) → Prop where
  | nil : Rows K H [] [] []
  | cons {r : Addr} {row : List V} {es : List D} {rs : List Addr} {rows : List (List V)} {ess : List (List D)} : SqT K H r row → RpAll K H row es → Rows K H rs rows ess → Rows K H (r :: rs) (row :: rows) (es :: ess)
section
variable {K : PySem.W.Frag} {H H' : Hp}
theorem Rows.snoc {r : Addr} {row : List V} {es : List D} (h : SqT K H r row) (hr : RpAll K H row es) : ∀ {rs : List Addr} {rows : List (List V)} {ess : List (List D)}, Rows K H rs rows ess → Rows K H (rs ++ [r]) (rows ++ [row]) (ess ++ [es])
  | _, _, _, .nil => .cons h hr .nil
  | _, _, _, .cons a b c => .cons a b (Rows.snoc h hr c)
theorem Rows.len : ∀ {rs : List Addr} {rows : List (List V)} {ess : List (List D)}, Rows K H rs rows ess → rs.length = rows.length ∧ rs.length = ess.length
  | _, _, _, .nil => ⟨rfl, rfl⟩
  | _, _, _, .cons _ _ c => ⟨by rw [List.length_cons, List.length_cons, c.len.1], by rw [List.length_cons, List.length_cons, c.len.2]⟩
theorem Rows.get : ∀ {rs : List Addr} {rows : List (List V)} {ess : List (List D)}, Rows K H rs rows ess → ∀ (i : Nat) r row, rs[i]? = some r → rows[i]? = some row → SqT K H r row
  | _, _, _, .nil, i, r, row, h, _ => by simp at h
  | _, _, _, .cons a _ c, 0, r, row, h, h' => by
    have e1 := Option.some.inj h
    have e2 := Option.some.inj h'
    subst e1 e2
    exact a
  | _, _, _, .cons _ _ c, i + 1, r, row, h, h' => Rows.get c i r row (by simpa using h) (by simpa using h')
theorem Rows.flat : ∀ {rs : List Addr} {rows : List (List V)} {ess : List (List D)}, Rows K H rs rows ess → RpAll K H rows.flatten ess.flatten
  | _, _, _, .nil => .nil
  | _, _, _, .cons _ b c => by
    rw [List.flatten_cons, List.flatten_cons]
    exact RpAll.app b (Rows.flat c)
end
section
variable {P : Program} {w : World} {K : PySem.W.Frag} {mg : Str → Option Value} {base : Heap} {A : Ad} {D : Fd}
def sp_is_plain_within (K : PySem.W.Frag) : Sp := fun vs H Q _ => ∃ x d, ∃ n : Nat, vs = [x, .int (n : Int)] ∧ Rp K H x d ∧ d.size ≤ 30000 ∧ RetV (.bl (d.plain n)) H Q
theorem len_is_plain_within {vs : List V} {H : Hp} {Q : VK} {E : XK} (h : sp_is_plain_within K vs H Q E) : vs.length = 2 := by
  obtain ⟨x, d, n, rfl, _⟩ := h
  rfl
theorem sv_within_plain {H : Hp} {x : V} {d : K0.D} {n : Nat} (h : Rp K H x d) (hs : d.size ≤ 30000) : SpV (sp_is_plain_within K) [x, .int (n : Int)] H (.bl (d.plain n)) := fun H1 e Q q E => ⟨x, d, n, rfl, h.ex e, hs, q⟩
def PlainW (K : PySem.W.Frag) (H : Hp) (x : V) (d : K0.D) (n : Nat) (m : Nat) (σ : L2.St) (H' : Hp) : Prop :=
  ∃ (lv : Addr) (xs : List V) (ds : List K0.D) (k : Nat) (v4 v5 : Option V), σ = [some x, some (.int (n : Int)), some (.ref lv), some (.int (k : Int)), v4, v5, none, none] ∧ H' lv = some (.lst xs) ∧ RpAll K H' xs ds ∧ Ex H H' ∧
    K0.D.sizeL ds = m ∧ m ≤ 30000 ∧ k ≤ n ∧ d.plain n = ds.all (K0.D.plain (n - k))
def PlainP (K : PySem.W.Frag) (H1 : Hp) (x : V) (n k : Nat) (lv p : Addr) (ds : List K0.D) (i : Nat) (σ : L2.St) (H' : Hp) : Prop :=
  ∃ (ys : List Addr) (rows : List (List V)) (v5 : Option V), σ = [some x, some (.int (n : Int)), some (.ref lv), some (.int (k : Int)), some (.ref p), v5, none, none] ∧ Ex H1 H' ∧ H' p = some (.lst (ys.map V.ref)) ∧
    Rows K H1 ys rows (tupsL (ds.take i)) ∧ (ds.take i).all okTop = true ∧ ys.length ≤ i
theorem ok_is_plain_within (T : Txt K mg A D) : FnOk P w K mg base CX0 3 A.is_plain_within D.is_plain_within ["value", "most"] (sp_is_plain_within K) := by
  have G_is_single : FnOk P w K mg base CX0 2 A.is_single D.is_single ["value"] (sp_is_single K) := ok_is_single T
  refine T.F_is_plain_within.ok sc_is_plain_within (fun vs H Q E h => len_is_plain_within h) (fun cdv A0 outer s H vs Q E hr h => ?_)
  refine ⟨_, (pss_cons (ps_set (i := 2) sc_is_plain_within.nd rfl (Or.inl rfl) (pe_lst (pa_cons (pv 0) pa_nil)))
  (pss_cons (ps_set (i := 3) sc_is_plain_within.nd rfl (Or.inl rfl) pe_int)
  (pss_cons (ps_while PassesOwn.never (pt_truth (pv 2) (by intro _; rfl)) (pss_cons (ps_set (i := 4) sc_is_plain_within.nd rfl (Or.inl rfl) (pe_lst pa_nil))
  (pss_cons (ps_for PassesOwn.never rfl (pi_list (pv 2)) (pg_name (i := 5) sc_is_plain_within.nd rfl (Or.inl rfl)) (pss_one (ps_if (pt_val (pe_callB call_isi (by rfl) T.b_isinstance (by decide +kernel) (pa_cons (pv 5) (pa_cons (pe_bltn (v := .ty "tuple") (u := .type "tuple") (by rfl) T.b_tuple (by decide +kernel) rfl) pa_nil)))) (pss_one (ps_expr (pe_bm PySem.F.plainAttrs_list PySem.F.slot_list_append PySem.F.type_list_append mt_append (pv 4) (pa_cons (pv 5) pa_nil)))) (pss_one (ps_if (pt_not (pt_val (pe_call G_is_single (hr.mono (by decide)) rfl T.g_is_single T.F_is_single.kp T.b_is_single .nil pass0 (pa_cons (pv 5) pa_nil)))) (pss_one (ps_ret pe_bl)) pss_nil)))))
  (pss_cons (ps_if (pt_truth (pv 4) (by intro _; rfl)) (pss_one (ps_aug (i := 3) sc_is_plain_within.nd rfl (Or.inl rfl) pe_int ip_add)) pss_nil)
  (pss_cons (ps_if (pt_cmpR op_gt (pv 3) (pv 1) (nomark _)) (pss_one (ps_ret pe_bl)) pss_nil)
  (pss_one (ps_setLc2 (i := 2) (wi1 := iTup K (tVar 6)) (own := [("row", 6), ("member", 7)]) (vs1 := [7]) (g := gName 6) (g1 := gName 7) (tt := tYes) (tt1 := tYes) rfl sc_is_plain_within.nd rfl rfl (sw_true rfl rfl rfl (by decide +kernel)) (pi_list (pv 4)) (blkOk_by (own := [("row", 6), ("member", 7)]) (N := N_is_plain_within) (sc := defScope s_is_plain_within) (by decide +kernel)) (by decide) (fun _ _ _ _ _ => by exact pg_name (i := 6) sc_is_plain_within.nd rfl (Or.inl rfl)) (fun _ _ _ _ _ => pts_nil) (fun _ _ _ _ _ => by exact (pi_tup (pv 6))) (fun _ _ _ _ _ => by exact pg_name (i := 7) sc_is_plain_within.nd rfl (Or.inl rfl)) (fun _ _ _ _ _ => pts_nil) (fun _ _ _ _ _ => by exact (pv 7)))))))))
  (pss_one (ps_ret pe_bl))))), ?_⟩
  obtain ⟨x, d, n, rfl, hx, hs, k⟩ := h
  have wl : ∀ (lv : Addr) (xs : List V), xs.length = 1 → True := fun _ _ _ => trivial
  refine q_asgL (el_lst (ea_cons (ev_var rfl) ea_nil) (by simp)) fun lv H1 hlv e1 h1 => ?_
  refine q_asg ev_c fun H2 e2 => ?_
  refine q_while (PlainW K H x d n) _ ⟨lv, [x], [d], 0, none, none, rfl, e2 _ _ h1, .cons (hx.ex (e1.trans e2)) .nil, e1.trans e2, rfl, ?_, Nat.zero_le _, ?_⟩ ?_
  · simp only [K0.D.sizeL]
    omega
  · simp
  rintro m σ' H' ⟨lv, xs, ds, kk, v4, v5, rfl, hl, hr0, e0, hm, hm2, hk, hp⟩
  have hlen := hr0.len
  have hsl := sizeL_len ds
  refine ⟨!xs.isEmpty, et_truL (ev_var rfl) (sq_of hl), fun hb H3 e3 => ⟨fun σ2 H2 => ∃ m', m' < m ∧ PlainW K H x d n m' σ2 H2, fun σ2 H2 z => z, ?_⟩, fun hb H3 e3 => ?_⟩
  · -- a turn
    have hr3 := hr0.ex e3
    refine q_asgL (el_lst ea_nil (by decide)) fun p H4 hp4 e4 h4 => ?_
    refine q_forLn (xs := xs) (ev_var rfl) (sq_of (e4 _ _ (e3 _ _ hl))) (PlainP K H3 x n kk lv p ds) (fun H5 e5 => ?_) (fun i σ5 H5 hi q5 => ?_) (fun i y σ5 H5 hy q5 => ?_) (fun σ5 H5 q5 => ?_)
    · exact ⟨[], [], v5, rfl, e4.trans e5, e5 _ _ h4, .nil, rfl, Nat.le_refl _⟩
    · obtain ⟨ys, rows, w5, rfl, q1, _⟩ := q5
      exact sq_of (q1 _ _ (e3 _ _ hl))
    · obtain ⟨ys, rows, w5, rfl, q1, q2, q3, q4, q6⟩ := q5
      obtain ⟨di, hdi, hrp⟩ := RpAll.get _ _ _ _ hr3 hy
      have hmem : di ∈ ds := List.mem_of_getElem? hdi
      have hsz : di.size ≤ 30000 := by have := size_mem hmem; omega
      have hilt : i < xs.length := (List.getElem?_eq_some_iff.mp hy).1
      have etk : ds.take (i + 1) = ds.take i ++ [di] := by rw [List.take_succ, hdi]; rfl
      refine s_if (et_B (ev_cb (ea_cons (ev_var rfl) (ea_cons ev_c ea_nil)) (rc_tup (hrp.ex q1)))) (fun hb H6 e6 => ?_) (fun hb H6 e6 => ?_)
      · obtain ⟨r, row, es, rfl, rfl, hq, hra⟩ := hrp.isT hb
        refine s_app (e6 _ _ q2) (ev_var rfl) (ev_var rfl) (by rw [List.length_map]; omega) fun H7 e7 => ?_
        refine ⟨ys ++ [r], rows ++ [row], _, rfl, Ex.mut ((q1.trans e6).trans e7) hp4, ?_, ?_, ?_, ?_⟩
        · rw [upd_same, List.map_append]
          rfl
        · rw [etk, tupsL_app]
          exact Rows.snoc hq hra q3
        · rw [etk, List.all_append, q4]
          rfl
        · rw [List.length_append]
          simp
          omega
      · refine s_if (et_not (et_B (ev_call (ea_cons (ev_var rfl) ea_nil) (svS (hrp.ex (q1.trans e6)) hsz)))) (fun hb2 H7 e7 => ?_) (fun hb2 H7 e7 => ?_)
        · refine s_ret ev_c fun H8 e8 => ?_
          have := k H8 ((((e0.trans e3).trans q1).trans e6).trans (e7.trans e8))
          have hf : ds.all (K0.D.plain (n - kk)) = false := by
            have hdf : di.plain (n - kk) = false := by
              rw [plain_single hb]
              cases z : di.single with
              | true => rw [z] at hb2; cases hb2
              | false => rfl
            rw [List.all_eq_false]
            exact ⟨di, hmem, by rw [hdf]; decide⟩
          rw [hp, hf] at this
          exact this
        · have hsi : di.single = true := by
            cases z : di.single with
            | true => rfl
            | false => rw [z] at hb2; cases hb2
          refine ⟨ys, rows, _, rfl, (q1.trans e6).trans e7, e7 _ _ (e6 _ _ q2), ?_, ?_, by omega⟩
          · rw [etk, tupsL_app]
            have : tupsL [di] = [] := by cases di <;> first | rfl | cases hb
            rw [this, List.append_nil]
            exact q3
          · rw [etk, List.all_append, q4]
            show (true && ((di.isTup || di.single) && true)) = true
            rw [hsi]
            cases di.isTup <;> rfl
    · obtain ⟨ys, rows, w5, rfl, q1, q2, q3, q4, q6⟩ := q5
      rw [hlen, List.take_length] at q3 q4
      have hrl := q3.len
      have hszf := size_flat ds
      have hflen : rows.flatten.length ≤ 40000 := by
        have h1 := q3.flat.len
        have h2 := sizeL_len (tupsL ds).flatten
        omega
      have fin : ∀ (k' : Nat) (H8 : Hp), Ex H5 H8 → k' ≤ n → d.plain n = (tupsL ds).flatten.all (K0.D.plain (n - k')) → K0.D.sizeL (tupsL ds).flatten < m →
          tAsg (tLc2 (iList K (tVar 4)) (gName 6) tYes (iTup K (tVar 6)) (gName 7) tYes (tVar 7) [6, 7] [7]) (gName 2) { nx := fun σ2 H2 => ∃ m', m' < m ∧ PlainW K H x d n m' σ2 H2, rt := Q, bk := fun _ _ => False, ct := fun _ _ => False }
            [some x, some (.int (n : Int)), some (.ref lv), some (.int (k' : Int)), some (.ref p), w5, none, none] H8 := fun k' H8 e8 hk' hpl hlt => by
        refine s_asgL (el_flat (a := p) (ev_var rfl) (sq_of (e8 _ _ q2)) hrl.1 (fun i r row h1 h2 => ex_t (q1.trans e8) (q3.get i r row h1 h2)) hflen (fun _ => rfl) (fun _ => rfl) (fun _ _ => rfl) (fun _ _ => rfl)) fun lv2 H9 hlv2 e9 h9 => ?_
        exact ⟨_, hlt, lv2, rows.flatten, (tupsL ds).flatten, k', _, _, rfl, h9, q3.flat.ex ((q1.trans e8).trans e9), ((e0.trans e3).trans q1).trans (e8.trans e9), rfl, by omega, hk', hpl⟩
      have hne : ds ≠ [] := by
        intro z
        subst z
        have : xs = [] := by
          cases xs with
          | nil => rfl
          | cons a b => cases hr0
        subst this
        cases hb
      refine q_when (et_truL (ev_var rfl) (sq_of q2)) (fun hb6 H6 e6 => ?_) (fun hb6 H6 e6 => ?_)
      · have hys : tupsL ds ≠ [] := by
          intro z
          have h1 := hrl.2
          rw [z] at h1
          have h2 : ys = [] := List.length_eq_zero_iff.mp h1
          subst h2
          cases hb6
        have hpos : 0 < (tupsL ds).length := List.length_pos_iff.mpr hys
        refine s_aug (a := (kk : Int)) (b := 1) rfl ev_c fun H7 e7 => ?_
        refine q_when (b := decide ((n : Int) < (kk : Int) + 1)) (et_test (ev_op (ev_var rfl) (ev_var rfl) rv_I0)) (fun hb7 H8 e8 => ?_) (fun hb7 H8 e8 => ?_)
        · refine s_ret ev_c fun H9 e9 => ?_
          have := k H9 ((((e0.trans e3).trans q1).trans e6).trans ((e7.trans e8).trans e9))
          have hkn : n - kk = 0 := by
            have := of_decide_eq_true hb7
            omega
          rw [hp, hkn, plain_deep hys] at this
          exact this
        · have hkn : kk + 1 ≤ n := by
            have := of_decide_eq_false hb7
            omega
          refine fin (kk + 1) H8 ((e6.trans e7).trans e8) hkn ?_ (by omega)
          have e1 : n - kk = (n - (kk + 1)) + 1 := by omega
          rw [hp, e1]
          exact plain_flat ds q4
      · have hys : tupsL ds = [] := by
          have h1 : ys = [] := by
            cases ys with
            | nil => rfl
            | cons a b => cases hb6
          subst h1
          exact List.length_eq_zero_iff.mp hrl.2.symm
        refine q_when (b := decide ((n : Int) < (kk : Int))) (et_test (ev_op (ev_var rfl) (ev_var rfl) rv_I0)) (fun hb7 H8 e8 => ?_) (fun hb7 H8 e8 => ?_)
        · have := of_decide_eq_true hb7
          omega
        · have hpos : 0 < ds.length := List.length_pos_iff.mpr hne
          refine fin kk H8 (e6.trans e8) hk ?_ ?_
          · rw [hp, hys, plain_none q4 hys]
            rfl
          · rw [hys]
            show 0 < m
            omega
  · have : xs = [] := by
      cases xs with
      | nil => rfl
      | cons a b => cases hb
    subst this
    have hd : ds = [] := by
      cases ds with
      | nil => rfl
      | cons a b => cases hr0
    subst hd
    refine s_ret ev_c fun H4 e4 => ?_
    have := k H4 ((e0.trans e3).trans e4)
    rw [hp] at this
    exact this
def sp_is_plain (K : PySem.W.Frag) : Sp := spS (K0.D.plain 12) K
theorem len_is_plain {vs : List V} {H : Hp} {Q : VK} {E : XK} (h : sp_is_plain K vs H Q E) : vs.length = 1 := spS_len h
theorem ok_is_plain (T : Txt K mg A D) : FnOk P w K mg base CX0 4 A.is_plain D.is_plain ["value"] (sp_is_plain K) := by
  have G_is_plain_within : FnOk P w K mg base CX0 3 A.is_plain_within D.is_plain_within ["value", "most"] (sp_is_plain_within K) := ok_is_plain_within T
  obtain ⟨t_MAX_NEST, c_MAX_NEST⟩ := T.c_MAX_NEST
  refine T.F_is_plain.ok sc_is_plain (fun vs H Q E h => len_is_plain h) (fun cdv A0 outer s H vs Q E hr h => ?_)
  refine ⟨_, (pss_one (ps_ret (pe_call G_is_plain_within (hr.mono (by decide)) rfl T.g_is_plain_within T.F_is_plain_within.kp T.b_is_plain_within .nil pass0 (pa_cons (pv 0) (pa_cons (pe_glob (v := .int (12)) rfl c_MAX_NEST ⟨_, rfl⟩) pa_nil))))), ?_⟩
  obtain ⟨x, d, rfl, hx, hs, k⟩ := h
  exact s_ret (ev_call (ea_cons (ev_var rfl) (ea_cons ev_c ea_nil)) (sv_within_plain (n := 12) hx hs)) fun H2 e2 => k H2 e2
end
end K0

namespace K0
open PySem PySem.Spec PyProof.Rows L2 Evl
/-! ### more rules -/
section
variable {X : Cx}
/-- xs == [] for two lists of which one is empty -/
theorem op_eqNil (hu : X.A.units < cLine) : OpR X (compareOp .Eq) (fun x y H Q => ∃ a b xs, x = V.ref a ∧ y = V.ref b ∧ SqL X.K H a xs ∧ SqL X.K H b [] ∧ Q (.bl xs.isEmpty) H) := by
  intro pins s σ H x y v u Q I rx ry h
  obtain ⟨a, b, xs, rfl, rfl, ha, hb, q⟩ := h
  cases rx
  cases ry
  obtain ⟨its, r, p, _⟩ := I.list ha
  obtain ⟨its2, r2, p2, _⟩ := I.list hb
  cases r2
  cases xs with
  | nil =>
    cases r
    exact SeqAt.eq_listAt (e := fun _ => true) p.isList p2.isList rfl hu (fun j h1 _ => absurd h1 (by simp)) ⟨.bl true, H, I, rfl, q⟩
  | cons y ys =>
    refine SeqAt.eq_list_lengthsAt p.isList p2.isList ?_ hu ⟨.bl false, H, I, rfl, q⟩
    cases r with
    | cons r1 r2 => simp
theorem fold_size (x : Array Nat) : ∀ (n : Nat) (acc : Array Nat), ((List.replicate n x).foldl (· ++ ·) acc).size = acc.size + n * x.size
  | 0, acc => by simp
  | n + 1, acc => by
    rw [List.replicate_succ, List.foldl_cons, fold_size x n, Array.size_append, Nat.succ_mul]
    omega
/-- a text times a number: some text of that length -/
theorem op_mulS : OpR X (binaryOp .Mult) (fun x y H Q => ∃ (s : Str) (n : Nat), x = V.str s ∧ y = V.int (n : Int) ∧ 1 < n ∧ n ≤ 5000 ∧ s.length = 1 ∧ ∀ z : Str, z.length = n → Q (.str z) H) := by
  intro pins s σ H x y v u Q I rx ry h
  obtain ⟨a, n, rfl, rfl, h1, h2, hl, q⟩ := h
  obtain ⟨t, rfl⟩ := rx
  obtain ⟨t', rfl⟩ := ry
  have hs : sizeLine = 16777216 := sizeLine_eq
  have hn : ¬ ((n : Int) < 1) := by omega
  have hb : ((n : Int) == 1 || a.length == 0) = false := by
    rw [hl]
    simp
    omega
  have e : (⟨(List.replicate ((n : Int)).toNat a.cps).foldl (· ++ ·) #[]⟩ : Str).length = n := by
    show ((List.replicate ((n : Int)).toNat a.cps).foldl (· ++ ·) #[]).size = n
    rw [fold_size]
    show 0 + ((n : Int)).toNat * a.length = n
    rw [hl]
    omega
  refine PySem.P.mul_str ?_ (fun _ _ => ?_) (fun _ _ => ?_) ?_
  · have c1 : ¬ ((n : Int) < -(2 ^ 63 : Int)) := by omega
    have c2 : ¬ ((n : Int) ≥ 2 ^ 63) := by omega
    rw [decide_eq_false c1, decide_eq_false c2]
    rfl
  · rw [hl]
    have h3 : 1 ≤ (2 ^ 63 - 1 : Int) / (n : Int) := by
      rw [Int.le_ediv_iff_mul_le (by omega)]
      omega
    omega
  · rw [hl]
    unfold Builtin.Str.tooLong
    exact decide_eq_false (by omega)
  · rw [if_neg hn, if_neg (by rw [hb]; decide)]
    exact ⟨by rw [e, hs]; omega, ⟨.str _, H, I.tok _, ⟨_, rfl⟩, q _ e⟩⟩
/-- set(t), t a tuple of ints -/
def rSetT (K : PySem.W.Frag) (w : World) : List V → Hp → VK → Prop := fun vs H Q => ∃ (a : Addr) (ns : List Int), vs = [V.ref a] ∧ SqT K H a (ns.map V.int) ∧ ns.length ≤ 60 ∧
  ∀ (p : Addr) (c : Nat), c ≤ ns.length → H p = none → Q (.ref p) (upd H p (SetO w p (fun j => decide (j ∈ ns)) c))
theorem cr_setT (hc : X.calm = true) : CallR X (.type "set") (rSetT X.K X.w) := by
  intro pins s σ H xs us Q I r h
  obtain ⟨a, ns, rfl, ha, hl, q⟩ := h
  obtain ⟨u, rfl, rx⟩ := vals1 r
  cases rx
  obtain ⟨its, ri, p, _⟩ := I.tuple ha
  have hb : ns.length + 1 < scanBound := Nat.lt_of_le_of_lt (Nat.succ_le_succ hl) (by decide)
  refine L2.call_set_tupI ns (I.ok.hd hc) p (by simpa using intsAre_of ri) hb fun h' tk c R hcl hk => ?_
  exact ⟨.ref _, upd H s.heap.objs.size (SetO X.w s.heap.objs.size (fun j => decide (j ∈ ns)) c), I.laid (t' := tk) hk (Nat.le_refl _) (setO_new R), rfl, q _ c hcl (I.hok.fresh (Nat.le_refl _))⟩
/-- repr of data (where no repr is under way) -/
def rRepr (K : PySem.W.Frag) : List V → Hp → VK → Prop := fun vs H Q => ∃ x d, vs = [V.ref x] ∧ Dp K H (.ref x) d ∧ d.showable = true ∧ d.hasDict = false ∧ d.depth ≤ 60 ∧ d.shown.length ≤ sizeLine ∧ Q (.str d.shown) H
theorem cr_repr (hg : X.A.guards = some []) (hu : X.A.units + 64 < cLine) : CallR X (.builtin "repr") (rRepr X.K) := by
  intro pins s σ H xs us Q I r h
  obtain ⟨a, d, rfl, hd, h1, h2, h3, h4, q⟩ := h
  obtain ⟨u, rfl, rx⟩ := vals1 r
  cases rx
  obtain ⟨as, rr⟩ := Dp.reads I d _ _ hd rfl
  refine repr_of_reads' rr h1 (fun z => by rw [h2] at z; cases z) hg (by omega) (fun b o e => e) (fun h' u tk hk => ?_) h4
  exact ⟨.str d.shown, H, I.kept hk, ⟨_, rfl⟩, q⟩
end
end K0

namespace K0
open PySem L2 Evl
/-! ### the heap but for one list -/
def hid (o : Option Addr) (H : Hp) : Hp := fun b => if o = some b then none else H b
section
variable {o : Option Addr} {a : Addr} {H H' H'' : Hp}
theorem hid_ex (e : Ex H H') : Ex (hid o H) (hid o H') := fun b u h => by
  unfold hid at h ⊢
  split at h
  · cases h
  · rename_i n
    rw [if_neg n]
    exact e b u h
theorem hid_le : Ex (hid o H) H := fun b u h => by
  unfold hid at h
  split at h
  · cases h
  · exact h
theorem hid_none : hid none H = H := by
  funext b
  unfold hid
  rw [if_neg (by simp)]
theorem hid_at {b : Addr} {u : HO} (h : H b = some u) (n : b ≠ a) : hid (some a) H b = some u := by
  unfold hid
  rw [if_neg (by simpa using fun z => n z.symm)]
  exact h
/-- all but what stands at a is as it was -/
def Bt (a : Addr) (H H' : Hp) : Prop := Ex (hid (some a) H) (hid (some a) H')
theorem Bt.refl : Bt a H H := Ex.refl _
theorem Bt.trans (h : Bt a H H') (h' : Bt a H' H'') : Bt a H H'' := Ex.trans h h'
theorem Bt.of (e : Ex H H') : Bt a H H' := hid_ex e
theorem Bt.upd {u : HO} : Bt a H (L2.upd H a u) := fun b v h => by
  unfold hid at h ⊢
  split at h
  · cases h
  · rename_i n
    have n' : b ≠ a := fun z => n (by rw [z])
    rw [if_neg n, upd_ne n']
    exact h
theorem Bt.at {b : Addr} {u : HO} (e : Bt a H H') (n : b ≠ a) (h : H b = some u) : H' b = some u := hid_le _ _ (e _ _ (hid_at h n))
theorem Bt.sqL {K : PySem.W.Frag} {b : Addr} {xs : List V} (e : Bt a H H') (n : b ≠ a) (h : SqL K H b xs) : SqL K H' b xs := by
  rcases h with (h | ⟨o, h⟩) | h
  · exact .inl (.inl (e.at n h))
  · exact .inl (.inr ⟨o, e.at n h⟩)
  · exact .inr h
theorem Bt.sqT {K : PySem.W.Frag} {b : Addr} {xs : List V} (e : Bt a H H') (n : b ≠ a) (h : SqT K H b xs) : SqT K H' b xs := by
  rcases h with (h | ⟨o, h⟩) | h
  · exact .inl (.inl (e.at n h))
  · exact .inl (.inr ⟨o, e.at n h⟩)
  · exact .inr h
theorem Bt.free {b : Addr} (e : Bt a H H') (n : b ≠ a) (h : H' b = none) : H b = none := by
  cases z : H b with
  | none => rfl
  | some u =>
    rw [e.at n z] at h
    cases h
end
def DiceAt (H : Hp) (a : Addr) : Prop := ∃ d0 d1 d2 : Int, H a = some (.lst [.int d0, .int d1, .int d2])
theorem DiceAt.ex {H H' : Hp} {a : Addr} (e : Ex H H') (h : DiceAt H a) : DiceAt H' a := by
  obtain ⟨x, y, z, h⟩ := h
  exact ⟨x, y, z, e _ _ h⟩
theorem DiceAt.ne {H : Hp} {a p : Addr} (h : DiceAt H a) (hp : H p = none) : p ≠ a := by
  obtain ⟨x, y, z, h⟩ := h
  exact (ne_of_none h hp).symm
section
variable {K : PySem.W.Frag} {σ : L2.St} {H H' : Hp} {ta tb te tx : TE} {t u : TT} {x y z v : V}
theorem rc_abs {i : Int} : RC (fun xs H Q => ∃ i, xs = [.int i] ∧ Q (.int (if i < 0 then -i else i)) H) [.int i] H (.int (if i < 0 then -i else i)) := fun H1 _ _ q => ⟨i, rfl, q H1 (Ex.refl _)⟩
theorem rc_max2 {i j : Int} : RC (fun xs H Q => ∃ i j, xs = [.int i, .int j] ∧ Q (.int (if j > i then j else i)) H) [.int i, .int j] H (.int (if j > i then j else i)) := fun H1 _ _ q => ⟨i, j, rfl, q H1 (Ex.refl _)⟩
theorem rc_min2 {i j : Int} : RC (fun xs H Q => ∃ i j, xs = [.int i, .int j] ∧ Q (.int (if j < i then j else i)) H) [.int i, .int j] H (.int (if j < i then j else i)) := fun H1 _ _ q => ⟨i, j, rfl, q H1 (Ex.refl _)⟩
theorem rc_int1 {i : Int} : RC (fun xs H Q => (∃ i, xs = [.int i] ∧ Q (.int i) H) ∨ ∃ k, xs = [.bl k] ∧ Q (.int (if k then 1 else 0)) H) [.int i] H (.int i) := fun H1 _ _ q => Or.inl ⟨i, rfl, q H1 (Ex.refl _)⟩
theorem rc_intB {b : Bool} : RC (fun xs H Q => (∃ i, xs = [.int i] ∧ Q (.int i) H) ∨ ∃ k, xs = [.bl k] ∧ Q (.int (if k then 1 else 0)) H) [.bl b] H (.int (if b then 1 else 0)) := fun H1 _ _ q => Or.inr ⟨b, rfl, q H1 (Ex.refl _)⟩
theorem rv_pow {i : Int} {n : Nat} (h : n ≤ 1000000) (hi : i.natAbs < 2 ^ 64) : RV (rI CPow fun i j => .int (i ^ j.toNat)) (.int i) (.int (n : Int)) H (.int (i ^ n)) := rv_I (by exact ⟨by omega, by omega, hi⟩)
/-- a chosen value -/
theorem ev_ifv {b : Bool} {v w : V} (h : EvT t σ H b) (h1 : b = true → Ev ta σ H v) (h2 : b = false → Ev tb σ H w) : Ev (tIf t ta tb) σ H (if b then v else w) := by
  cases b with
  | true => exact ev_if h (fun _ => h1 rfl) (fun z => by cases z)
  | false => exact ev_if h (fun z => by cases z) (fun _ => h2 rfl)
end
section
variable {P : Program} {w : World} {K : PySem.W.Frag} {mg : Str → Option Value} {base : Heap} {A : Ad} {D : Fd}
def sp_law_dice (K : PySem.W.Frag) : Sp := fun vs H Q _ => ∃ (a : Addr) (ns : List Int) (i : Nat), vs = [.ref a, .int (i : Int)] ∧ SqL K H a (ns.map V.int) ∧ ∀ p H', H p = none → Ex H H' → DiceAt H' p → Q (.ref p) H'
theorem len_law_dice {vs : List V} {H : Hp} {Q : VK} {E : XK} (h : sp_law_dice K vs H Q E) : vs.length = 2 := by
  obtain ⟨a, ns, i, rfl, _⟩ := h
  rfl
theorem ok_law_dice (T : Txt K mg A D) : FnOk P w K mg base CX0 1 A.law_dice D.law_dice ["script", "spot"] (sp_law_dice K) := by
  refine T.F_law_dice.ok sc_law_dice (fun vs H Q E h => len_law_dice h) (fun cdv A0 outer s H vs Q E hr h => ?_)
  refine ⟨_, (pss_cons (ps_set (i := 2) sc_law_dice.nd rfl (Or.inl rfl) (pe_ifExp (pt_cmpR op_lt (pv 1) (pe_callB call_len (by rfl) T.b_len (by decide +kernel) (pa_cons (pv 0) pa_nil)) (nomark _)) (pe_callTy call_int1 (by rfl) T.b_int (by decide +kernel) (pa_cons (pe_ix ix_list (pv 0) (pv 1) (fun _ _ => rfl)) pa_nil)) (pe_op op_add (pe_op op_mul pe_int (pv 1)) pe_int)))
  (pss_cons (ps_set (i := 3) sc_law_dice.nd rfl (Or.inl rfl) (pe_op op_mod (pe_callB (call_max2 rfl) (by rfl) T.b_max (by decide +kernel) (pa_cons pe_int (pa_cons (pe_op op_sub (pe_callB call_abs (by rfl) T.b_abs (by decide +kernel) (pa_cons (pv 2) pa_nil)) (pe_op op_pow pe_int pe_int)) pa_nil))) (pe_op op_mulW (pe_op op_pow pe_int pe_int) (pe_op op_pow pe_int pe_int))))
  (pss_one (ps_ret (pe_lst (pa_cons (pv 3) (pa_cons (pe_op op_add (pe_op op_add (pe_op op_add (pe_op op_mul (pe_op op_mod (pe_callB call_abs (by rfl) T.b_abs (by decide +kernel) (pa_cons (pv 2) pa_nil)) pe_int) pe_int) (pe_op op_mul pe_int (pv 1))) (pe_op op_mul pe_int (pe_callTy call_int1 (by rfl) T.b_int (by decide +kernel) (pa_cons (pe_cmpR op_lt (pv 2) pe_int (nomark _)) pa_nil)))) pe_int) (pa_cons pe_int pa_nil)))))))), ?_⟩
  obtain ⟨a, ns, i, rfl, ha, k⟩ := h
  refine q_asg (v := .int (if i < ns.length then ns.getD i 0 else 97 * (i : Int) + 61)) ?_ fun H1 e1 => ?_
  · refine ev_is (ev_ifv (b := decide ((i : Int) < (ns.length : Int))) (v := .int (ns.getD i 0)) (w := .int (97 * (i : Int) + 61)) (et_test (ev_is (ev_op (ev_var rfl) (ev_cb (ea_cons (ev_var rfl) ea_nil) (rc_lenL ha)) rv_I0) (by rw [List.length_map]))) (fun hb => ?_) (fun hb => ?_)) ?_
    · have hi : i < ns.length := by have := of_decide_eq_true hb; omega
      refine ev_cb (ea_cons (ev_op (ev_var rfl) (ev_var rfl) (rv_ixL ha (at_of (j := i) rfl ?_))) ea_nil) rc_int1
      rw [List.getElem?_map, List.getD_eq_getElem?_getD, List.getElem?_eq_getElem hi]
      rfl
    · exact ev_op (ev_op ev_c (ev_var rfl) (rv_I (.inl ⟨by decide, by decide⟩))) ev_c rv_I0
    · by_cases c : i < ns.length
      · rw [if_pos c, if_pos (decide_eq_true (by omega))]
      · rw [if_neg c, if_neg (by rw [decide_eq_false (by omega)]; decide)]
  generalize (if i < ns.length then ns.getD i 0 else 97 * (i : Int) + 61) = c
  refine q_asg (ev_op (ev_cb (ea_cons ev_c (ea_cons (ev_op (ev_cb (ea_cons (ev_var rfl) ea_nil) rc_abs) (ev_op ev_c ev_c (rv_pow (n := 16) (by decide) (by decide))) rv_I0) ea_nil)) rc_max2)
    (ev_op (ev_op ev_c ev_c (rv_pow (n := 57) (by decide) (by decide))) (ev_op ev_c ev_c (rv_pow (n := 60) (by decide) (by decide))) (rv_I (by show _ < _; decide +kernel))) (rv_I (by decide +kernel))) fun H2 e2 => ?_
  refine s_retL (el_lst (ea_cons (ev_var rfl) (ea_cons (ev_op (ev_op (ev_op (ev_op (ev_op (ev_cb (ea_cons (ev_var rfl) ea_nil) rc_abs) ev_c (rv_I (by decide))) ev_c (rv_I (.inr ⟨by decide, by decide⟩)))
    (ev_op ev_c (ev_var rfl) (rv_I (.inl ⟨by decide, by decide⟩))) rv_I0) (ev_op ev_c (ev_cb (ea_cons (ev_op (ev_var rfl) ev_c rv_I0) ea_nil) rc_intB) (rv_I (.inl ⟨by decide, by decide⟩))) rv_I0) ev_c rv_I0) (ea_cons ev_c ea_nil))) (by simp)) fun p H3 hp e3 h3 => ?_
  exact k p H3 (fresh_back (e1.trans e2) hp) ((e1.trans e2).trans e3) ⟨_, _, _, h3⟩
def sp_law_roll (K : PySem.W.Frag) : Sp := fun vs H Q _ => ∃ (a : Addr) (m : Int), vs = [.ref a, .int m] ∧ DiceAt H a ∧ 0 < m ∧ m < 1000000 ∧ ∀ r H', 0 ≤ r → r < m → Bt a H H' → DiceAt H' a → Q (.int r) H'
theorem len_law_roll {vs : List V} {H : Hp} {Q : VK} {E : XK} (h : sp_law_roll K vs H Q E) : vs.length = 2 := by
  obtain ⟨a, m, rfl, _⟩ := h
  rfl
theorem ok_law_roll (T : Txt K mg A D) : FnOk P w K mg base CX0 1 A.law_roll D.law_roll ["dice", "most"] (sp_law_roll K) := by
  refine T.F_law_roll.ok sc_law_roll (fun vs H Q E h => len_law_roll h) (fun cdv A0 outer s H vs Q E hr h => ?_)
  refine ⟨_, (pss_cons (ps_if (pt_cmpR op_gt (pe_ix ix_list (pv 0) pe_int (fun _ _ => rfl)) pe_int (nomark _)) (pss_cons (ps_set (i := 2) sc_law_roll.nd rfl (Or.inl rfl) (pe_op op_mod (pe_callTy call_int1 (by rfl) T.b_int (by decide +kernel) (pa_cons (pe_ix ix_list (pv 0) pe_int (fun _ _ => rfl)) pa_nil)) (pv 1)))
  (pss_cons (ps_asg (pe_op op_fdiv (pe_ix ix_list (pv 0) pe_int (fun _ _ => rfl)) (pv 1)) (pg_sub (pv 0) pe_int set_list))
  (pss_one (ps_ret (pv 2))))) pss_nil)
  (pss_cons (ps_asg (pe_op op_add (pe_ix ix_list (pv 0) pe_int (fun _ _ => rfl)) pe_int) (pg_sub (pv 0) pe_int set_list))
  (pss_cons (ps_set (i := 3) sc_law_roll.nd rfl (Or.inl rfl) (pe_op op_mod (pe_callTy call_int1 (by rfl) T.b_int (by decide +kernel) (pa_cons (pe_op op_add (pe_ix ix_list (pv 0) pe_int (fun _ _ => rfl)) (pe_op op_mul pe_int (pe_ix ix_list (pv 0) pe_int (fun _ _ => rfl)))) pa_nil)) pe_int))
  (pss_cons (ps_set (i := 4) sc_law_roll.nd rfl (Or.inl rfl) (pe_op op_add (pe_op op_mul (pe_op op_mod (pe_callTy call_int1 (by rfl) T.b_int (by decide +kernel) (pa_cons (pe_op op_add (pe_op op_mul (pv 3) (pv 3)) (pe_op op_mul pe_int (pe_ix ix_list (pv 0) pe_int (fun _ _ => rfl)))) pa_nil)) pe_int) pe_int) (pv 3)))
  (pss_one (ps_ret (pe_op op_mod (pe_callTy call_int1 (by rfl) T.b_int (by decide +kernel) (pa_cons (pe_op op_fdiv (pv 4) pe_int) pa_nil)) (pv 1)))))))), ?_⟩
  obtain ⟨a, m, rfl, ⟨d0, d1, d2, ha⟩, hm, hm2, k⟩ := h
  have hmod : ∀ x : Int, 0 ≤ x % m ∧ x % m < m := fun x => ⟨Int.emod_nonneg _ (by omega), Int.emod_lt_of_pos _ hm⟩
  refine q_when (b := decide (0 < d0)) (et_test (ev_op (ev_op (ev_var rfl) ev_c (rv_ixL (sq_of ha) (at_of (j := 0) rfl rfl))) ev_c rv_I0)) (fun hb H1 e1 => ?_) (fun hb H1 e1 => ?_)
  · have h1 := e1 _ _ ha
    refine q_asg (ev_op (ev_cb (ea_cons (ev_op (ev_var rfl) ev_c (rv_ixL (sq_of h1) (at_of (j := 0) rfl rfl))) ea_nil) rc_int1) (ev_var rfl) (rv_I hm)) fun H2 e2 => ?_
    have h2 := e2 _ _ h1
    refine q_setL (j := 0) h2 (ev_op (ev_op (ev_var rfl) ev_c (rv_ixL (sq_of h2) (at_of (j := 0) rfl rfl))) (ev_var rfl) (rv_I ⟨hm, by omega⟩)) (ev_var rfl) ev_c (by simp) fun H3 e3 => ?_
    refine s_ret (ev_var rfl) fun H4 e4 => ?_
    exact k _ H4 (hmod _).1 (hmod _).2 ((Bt.of ((e1.trans e2).trans e3)).trans (Bt.upd.trans (Bt.of e4))) ⟨_, _, _, e4 _ _ upd_same⟩
  · have h1 := e1 _ _ ha
    refine q_setL (j := 2) h1 (ev_op (ev_op (ev_var rfl) ev_c (rv_ixL (sq_of h1) (at_of (j := 2) rfl rfl))) ev_c rv_I0) (ev_var rfl) ev_c (by simp) fun H2 e2 => ?_
    have h2 : (L2.upd H2 a (.lst [.int d0, .int d1, .int (d2 + 1)])) a = some (.lst [.int d0, .int d1, .int (d2 + 1)]) := upd_same
    refine q_asg (v := .int ((d1 + 71593063 * (d2 + 1)) % 2305843009213693487)) (ev_op (ev_cb (ea_cons (ev_op (ev_op (ev_var rfl) ev_c (rv_ixL (sq_of h2) (at_of (j := 1) rfl rfl))) (ev_op ev_c (ev_op (ev_var rfl) ev_c (rv_ixL (sq_of h2) (at_of (j := 2) rfl rfl))) (rv_I (.inl ⟨by decide, by decide⟩))) rv_I0) ea_nil) rc_int1) ev_c (rv_I (by decide))) fun H3 e3 => ?_
    have h3 := e3 _ _ h2
    have hone : 0 ≤ (d1 + 71593063 * (d2 + 1)) % 2305843009213693487 ∧ (d1 + 71593063 * (d2 + 1)) % 2305843009213693487 < 2305843009213693487 := ⟨Int.emod_nonneg _ (by decide), Int.emod_lt_of_pos _ (by decide)⟩
    generalize (d1 + 71593063 * (d2 + 1)) % 2305843009213693487 = one at hone ⊢
    refine q_asg (v := .int ((one * one + 89 * (d2 + 1)) % 2305843009213693253 * 6700417 + one)) (ev_op (ev_op (ev_op (ev_cb (ea_cons (ev_op (ev_op (ev_var rfl) (ev_var rfl) (rv_I (.inl ⟨by omega, by omega⟩))) (ev_op ev_c (ev_op (ev_var rfl) ev_c (rv_ixL (sq_of h3) (at_of (j := 2) rfl rfl))) (rv_I (.inl ⟨by decide, by decide⟩))) rv_I0) ea_nil) rc_int1) ev_c (rv_I (by decide))) ev_c (rv_I (.inr ⟨by decide, by decide⟩))) (ev_var rfl) rv_I0) fun H4 e4 => ?_
    refine s_ret (ev_op (ev_cb (ea_cons (ev_op (ev_var rfl) ev_c (rv_I ⟨by decide, by decide⟩)) ea_nil) rc_int1) (ev_var rfl) (rv_I hm)) fun H5 e5 => ?_
    exact k _ H5 (hmod _).1 (hmod _).2 ((Bt.of (e1.trans e2)).trans (Bt.upd.trans (Bt.of ((e3.trans e4).trans e5)))) ⟨_, _, _, ((e3.trans e4).trans e5) _ _ h2⟩
def sp_law_pick (K : PySem.W.Frag) : Sp := fun vs H Q _ => ∃ (a p : Addr) (xs : List V), vs = [.ref a, .ref p] ∧ DiceAt H a ∧ p ≠ a ∧ SqL K H p xs ∧ xs ≠ [] ∧ xs.length < 1000000 ∧ ∀ x H', x ∈ xs → Bt a H H' → DiceAt H' a → Q x H'
theorem len_law_pick {vs : List V} {H : Hp} {Q : VK} {E : XK} (h : sp_law_pick K vs H Q E) : vs.length = 2 := by
  obtain ⟨a, p, xs, rfl, _⟩ := h
  rfl
theorem ok_law_pick (T : Txt K mg A D) : FnOk P w K mg base CX0 2 A.law_pick D.law_pick ["dice", "items"] (sp_law_pick K) := by
  have G_law_roll : FnOk P w K mg base CX0 1 A.law_roll D.law_roll ["dice", "most"] (sp_law_roll K) := ok_law_roll T
  refine T.F_law_pick.ok sc_law_pick (fun vs H Q E h => len_law_pick h) (fun cdv A0 outer s H vs Q E hr h => ?_)
  refine ⟨_, (pss_one (ps_ret (pe_ix ix_list (pv 1) (pe_call G_law_roll (hr.mono (by decide)) rfl T.g_law_roll T.F_law_roll.kp T.b_law_roll .nil pass0 (pa_cons (pv 0) (pa_cons (pe_callB call_len (by rfl) T.b_len (by decide +kernel) (pa_cons (pv 1) pa_nil)) pa_nil))) (fun _ _ => rfl)))), ?_⟩
  obtain ⟨a, p, xs, rfl, ha, hne, hp, hx, hx2, k⟩ := h
  have hpos : 0 < xs.length := List.length_pos_iff.mpr hx
  refine ⟨_, rfl, ?_⟩
  refine (ea_cons (ev_var rfl) (ea_cons (ev_cb (ea_cons (ev_var rfl) ea_nil) (rc_lenL hp)) ea_nil) : EvA _ _ H [.ref a, .int (xs.length : Nat)]) H (Ex.refl _) _ fun H1 e1 => ?_
  refine ⟨a, _, rfl, ha.ex e1, by omega, by omega, fun r H2 h0 h1 hb hd => ?_⟩
  have hbt := (Bt.of e1).trans hb
  have hj : r.toNat < xs.length := by omega
  refine ⟨p, xs, r, xs[r.toNat], rfl, rfl, hbt.sqL hne hp, at_of (j := r.toNat) (by omega) (List.getElem?_eq_getElem hj), ?_⟩
  exact k _ H2 (List.getElem_mem hj) hbt hd
end
end K0

namespace K0
open PySem L2 Evl
/-! ### what evaluates to some value of which R holds -/
def Mono (R : V → Hp → Prop) : Prop := ∀ v H H', Ex H H' → R v H → R v H'
def EvR (te : TE) (σ : L2.St) (H : Hp) (R : V → Hp → Prop) : Prop := ∀ H1, Ex H H1 → ∀ Q : VK, (∀ v H2, Ex H1 H2 → R v H2 → Q v H2) → te σ H1 Q
def EvAR (ta : TA) (σ : L2.St) (H : Hp) (n : Nat) (R : V → Hp → Prop) : Prop := ∀ H1, Ex H H1 → ∀ Q : List V → Hp → Prop, (∀ vs H2, Ex H1 H2 → vs.length = n → (∀ v ∈ vs, R v H2) → Q vs H2) → ta σ H1 Q
/-- a value of which the part of the heap but for o tells data of at most this size -/
def Rz (K : PySem.W.Frag) (o : Option Addr) (s : Nat) : V → Hp → Prop := fun v H => ∃ d, Rp K (hid o H) v d ∧ d.size ≤ s
def live (o : Option Addr) (H : Hp) : Prop := ∀ a, o = some a → H a ≠ none
section
variable {K : PySem.W.Frag} {σ : L2.St} {H H' : Hp} {ta tb te tx : TE} {tr : TA} {t u : TT} {x y z v : V} {R : V → Hp → Prop} {n s s' : Nat} {o : Option Addr}
theorem mono_Rz : Mono (Rz K o s) := fun v H H' e ⟨d, h, hs⟩ => ⟨d, h.ex (hid_ex e), hs⟩
theorem Rz.le (h : Rz K o s v H) (hs : s ≤ s') : Rz K o s' v H := let ⟨d, r, z⟩ := h; ⟨d, r, Nat.le_trans z hs⟩
theorem live.ex (h : live o H) (e : Ex H H') : live o H' := fun a ha => by
  cases z : H a with
  | none => exact absurd z (h a ha)
  | some u =>
    rw [e a u z]
    simp
theorem live.new {p : Addr} {u : HO} (h : live o H) (hp : H p = none) : hid o (upd H p u) p = some u := by
  unfold hid
  rw [if_neg, upd_same]
  intro z
  exact h p z hp
theorem live_of {a : Addr} (h : DiceAt H a) : live (some a) H := fun b hb => by
  obtain ⟨d0, d1, d2, h⟩ := h
  have e := Option.some.inj hb
  subst e
  rw [h]
  simp
theorem live_none : live none H := fun b hb => by cases hb
theorem er_ev (h : Ev te σ H v) (hr : ∀ H', R v H') : EvR te σ H R := fun H1 e Q q => h H1 e Q fun H2 e2 => q v H2 e2 (hr H2)
theorem ear_nil : EvAR tNil σ H 0 R := fun H1 _ _ q => q [] H1 (Ex.refl _) rfl (fun v h => by cases h)
theorem ear_cons (hm : Mono R) (h : EvR te σ H R) (hr : EvAR tr σ H n R) : EvAR (tCons te tr) σ H (n + 1) R := fun H1 e Q q =>
  h H1 e _ fun v H2 e2 hv => hr H2 (e.trans e2) _ fun vs H3 e3 hl hvs => q (v :: vs) H3 (e2.trans e3) (by rw [List.length_cons, hl]) fun w hw => by
    rcases List.mem_cons.mp hw with hw | hw
    · rw [hw]
      exact hm _ _ _ e3 hv
    · exact hvs w hw
def EvAL (ta : TA) (σ : L2.St) (H : Hp) (n : Nat) (R : V → Hp → Prop) : Prop := ∀ H1, Ex H H1 → ∀ Q : List V → Hp → Prop, (∀ vs H2, Ex H1 H2 → vs.length ≤ n → (∀ v ∈ vs, R v H2) → Q vs H2) → ta σ H1 Q
theorem eal_nil : EvAL tNil σ H n R := fun H1 _ _ q => q [] H1 (Ex.refl _) (Nat.zero_le _) (fun v h => by cases h)
theorem eal_cons (hm : Mono R) (h : EvR te σ H R) (hr : EvAL tr σ H n R) : EvAL (tCons te tr) σ H (n + 1) R := fun H1 e Q q =>
  h H1 e _ fun v H2 e2 hv => hr H2 (e.trans e2) _ fun vs H3 e3 hl hvs => q (v :: vs) H3 (e2.trans e3) (by rw [List.length_cons]; omega) fun w hw => by
    rcases List.mem_cons.mp hw with hw | hw
    · rw [hw]
      exact hm _ _ _ e3 hv
    · exact hvs w hw
theorem rpAll_of {G : Hp} : ∀ {vs : List V}, (∀ v ∈ vs, ∃ d, Rp K G v d ∧ d.size ≤ s) → ∃ ds, RpAll K G vs ds ∧ D.sizeL ds ≤ vs.length * s
  | [], _ => ⟨[], .nil, Nat.zero_le _⟩
  | v :: vs, h => by
    obtain ⟨d, h1, h2⟩ := h v List.mem_cons_self
    obtain ⟨ds, h3, h4⟩ := rpAll_of (vs := vs) fun w hw => h w (List.mem_cons_of_mem _ hw)
    refine ⟨d :: ds, .cons h1 h3, ?_⟩
    rw [List.length_cons, Nat.succ_mul]
    simp only [D.sizeL]
    omega
theorem er_tup (hl : live o H) (h : EvAL tr σ H n (Rz K o s)) (hn : n ≤ 1000) (hs : 1 + n * s ≤ s') : EvR (tTup tr) σ H (Rz K o s') := fun H1 e Q q =>
  h H1 e _ fun vs H2 e2 hlen hvs => ⟨sz_of (by omega), fun p hp => by
    have hl2 := hl.ex (e.trans e2)
    refine q (.ref p) _ (e2.trans (Ex.new hp)) ?_
    obtain ⟨ds, h1, h2⟩ := rpAll_of hvs
    refine ⟨.tup ds, .tup (st_of (hl2.new hp)) (h1.ex (hid_ex (Ex.new hp))), ?_⟩
    have h5 : vs.length * s ≤ n * s := Nat.mul_le_mul_right s hlen
    simp only [D.size]
    omega⟩
theorem er_lst (hl : live o H) (h : EvAL tr σ H n R) (hn : n ≤ 1000) (hs : 1 ≤ s') : EvR (tLst tr) σ H (Rz K o s') := fun H1 e Q q =>
  h H1 e _ fun vs H2 e2 hlen hvs => ⟨sz_of (by omega), fun p hp => q (.ref p) _ (e2.trans (Ex.new hp)) ⟨.oth, .lst ((hl.ex (e.trans e2)).new hp), hs⟩⟩
theorem er_dict (hl : live o H) (hs : 1 ≤ s') : EvR tDNewK σ H (Rz K o s') := fun H1 e Q q => fun p hp => q (.ref p) _ (Ex.new hp) ⟨.oth, .dct ((hl.ex e).new hp), hs⟩
theorem rz_non (h : 1 ≤ s) : Rz K o s .non H := ⟨.non, .non, h⟩
theorem rz_bl {b : Bool} (h : 1 ≤ s) : Rz K o s (.bl b) H := ⟨.bl b, .bl b, h⟩
theorem rz_int {i : Int} (h : 1 ≤ s) : Rz K o s (.int i) H := ⟨.int i, .int i, h⟩
theorem rz_str {z : Str} (h : 1 + z.length / 100 ≤ s) : Rz K o s (.str z) H := ⟨.str z, .str z, h⟩
theorem rv_pw {i j : Int} (h : 0 ≤ j ∧ j ≤ 1000000 ∧ i.natAbs < 2 ^ 64) : RV (rI CPow fun i j => .int (i ^ j.toNat)) (.int i) (.int j) H (.int (i ^ j.toNat)) := rv_I h
theorem er_mulS {a : Str} {n : Nat} (ha : Ev ta σ H (.str a)) (hb : Ev tb σ H (.int (n : Int))) (h1 : 1 < n) (h2 : n ≤ 5000) (hl : a.length = 1) (hs : 1 + n / 100 ≤ s) :
    EvR (tOp (fun x y H Q => ∃ (s : Str) (n : Nat), x = V.str s ∧ y = V.int (n : Int) ∧ 1 < n ∧ n ≤ 5000 ∧ s.length = 1 ∧ ∀ z : Str, z.length = n → Q (.str z) H) ta tb) σ H (Rz K o s) := fun H1 e Q q =>
  ha H1 e _ fun H2 e2 => hb H2 (e.trans e2) _ fun H3 e3 => ⟨a, n, rfl, rfl, h1, h2, hl, fun z hz => q (.str z) H3 (e2.trans e3) ⟨.str z, .str z, by simp only [D.size]; omega⟩⟩
/-- a call in a def that changes the heap -/
theorem c_call {sp : Sp} {dvs vs : List V} {E : XK} {ta : TA} {Q : VK} (h : EvA ta σ H vs) (k : ∀ H1, Ex H H1 → sp (vs ++ dvs) H1 Q E) : tCall sp dvs E ta σ H Q := h H (Ex.refl H) _ k
theorem s_retC {D : Ends} {sp : Sp} {dvs vs : List V} {E : XK} {ta : TA} (h : EvA ta σ H vs) (k : ∀ H1, Ex H H1 → sp (vs ++ dvs) H1 D.rt E) : tRet (tCall sp dvs E ta) D σ H := h H (Ex.refl H) _ k
theorem s_asgC {D : Ends} {sp : Sp} {dvs vs : List V} {E : XK} {ta : TA} {i : Nat} (h : EvA ta σ H vs) (k : ∀ H1, Ex H H1 → sp (vs ++ dvs) H1 (fun v H2 => D.nx (σ.set i (some v)) H2) E) : tAsg (tCall sp dvs E ta) (gName i) D σ H := h H (Ex.refl H) _ k
theorem q_asgC {D : Ends} {tz : TS} {sp : Sp} {dvs vs : List V} {E : XK} {ta : TA} {i : Nat} (h : EvA ta σ H vs) (k : ∀ H1, Ex H H1 → sp (vs ++ dvs) H1 (fun v H2 => tz D (σ.set i (some v)) H2) E) : tSeq (tAsg (tCall sp dvs E ta) (gName i)) tz D σ H := h H (Ex.refl H) _ k
/-- some = [..], some = some + [..] -/
theorem q_asgLR {D : Ends} {tz : TS} {i : Nat} (hm : Mono R) (h : EvAR tr σ H n R) (hn : n ≤ 1000) (k : ∀ p xs H1, H p = none → Ex H H1 → H1 p = some (.lst xs) → xs.length = n → (∀ v ∈ xs, R v H1) → tz D (σ.set i (some (.ref p))) H1) :
    tSeq (tAsg (tLst tr) (gName i)) tz D σ H :=
  h H (Ex.refl H) _ fun vs H1 e1 hl hvs => ⟨sz_of (by omega), fun p hp => k p vs _ (fresh_back e1 hp) (e1.trans (Ex.new hp)) upd_same hl fun v hv => hm _ _ _ (Ex.new hp) (hvs v hv)⟩
theorem q_asgCR {D : Ends} {tz : TS} {i : Nat} {q0 : Addr} {ys : List V} (hm : Mono R) (ha : Ev ta σ H (.ref q0)) (h0 : H q0 = some (.lst ys)) (hy : ∀ v ∈ ys, R v H) (h : EvAR tr σ H n R) (hn : n + ys.length ≤ 1000)
    (k : ∀ p xs H1, H p = none → Ex H H1 → H1 p = some (.lst xs) → xs.length = ys.length + n → (∀ v ∈ xs, R v H1) → tz D (σ.set i (some (.ref p))) H1) :
    tSeq (tAsg (tOp rCat ta (tLst tr)) (gName i)) tz D σ H :=
  ha H (Ex.refl H) _ fun H1 e1 => h H1 e1 _ fun vs H2 e2 hl hvs => ⟨sz_of (by omega), fun p hp => by
    have hq : q0 ≠ p := ne_of_none (e2 _ _ (e1 _ _ h0)) hp
    refine ⟨q0, p, ys, vs, rfl, rfl, by rw [upd_ne hq]; exact e2 _ _ (e1 _ _ h0), upd_same, sz_of (by omega), fun p2 hp2 => ?_⟩
    have e3 : Ex H2 (upd H2 p (.lst vs)) := Ex.new hp
    have e4 : Ex (upd H2 p (.lst vs)) (upd (upd H2 p (.lst vs)) p2 (.lst (ys ++ vs))) := Ex.new hp2
    refine k p2 (ys ++ vs) _ (fresh_back ((e1.trans e2).trans e3) hp2) (((e1.trans e2).trans e3).trans e4) upd_same (by rw [List.length_append, hl]) fun v hv => ?_
    rcases List.mem_append.mp hv with hv | hv
    · exact hm _ _ _ (((e1.trans e2).trans e3).trans e4) (hy v hv)
    · exact hm _ _ _ (e3.trans e4) (hvs v hv)⟩
end
end K0

namespace K0
open PySem L2 Evl
/-! ### lists may change, nothing else -/
def ExL (G G' : Hp) : Prop := ∀ b u, G b = some u → G' b = some u ∨ ∃ xs ys, u = .lst xs ∧ G' b = some (.lst ys)
theorem ExL.of {G G' : Hp} (e : Ex G G') : ExL G G' := fun b u h => .inl (e b u h)
theorem ExL.upd {G : Hp} {p : Addr} {xs ys : List V} (h : G p = some (.lst xs)) : ExL G (L2.upd G p (.lst ys)) := fun b u hb => by
  by_cases c : b = p
  · subst c
    rw [h] at hb
    exact .inr ⟨xs, ys, (Option.some.inj hb).symm, upd_same⟩
  · exact .inl (by rw [upd_ne c]; exact hb)
theorem ExL.trans {G G' G'' : Hp} (a : ExL G G') (b : ExL G' G'') : ExL G G'' := fun c u h => by
  rcases a c u h with h1 | ⟨xs, ys, rfl, h1⟩
  · exact b c u h1
  · rcases b c _ h1 with h2 | ⟨_, zs, _, h2⟩
    · exact .inr ⟨xs, ys, rfl, h2⟩
    · exact .inr ⟨xs, zs, rfl, h2⟩
theorem ExL.sqT {K : PySem.W.Frag} {G G' : Hp} {a : Addr} {xs : List V} (e : ExL G G') (h : SqT K G a xs) : SqT K G' a xs := by
  rcases h with (h | ⟨o, h⟩) | h
  · rcases e a _ h with h1 | ⟨_, _, z, _⟩
    · exact .inl (.inl h1)
    · cases z
  · rcases e a _ h with h1 | ⟨_, _, z, _⟩
    · exact .inl (.inr ⟨o, h1⟩)
    · cases z
  · exact .inr h
section
variable {K : PySem.W.Frag} {H H' : Hp}
mutual
theorem Rp.exL {v : V} {d : D} (e : ExL H H') : Rp K H v d → Rp K H' v d
  | .non => .non
  | .bl b => .bl b
  | .int i => .int i
  | .str s => .str s
  | .tup h r => .tup (e.sqT h) (RpAll.exL e r)
  | .lst h => by
    rcases e _ _ h with h1 | ⟨_, ys, _, h1⟩
    · exact .lst h1
    · exact .lst h1
  | .dct h => by
    rcases e _ _ h with h1 | ⟨_, _, z, _⟩
    · exact .dct h1
    · cases z
theorem RpAll.exL {vs : List V} {ds : List D} (e : ExL H H') : RpAll K H vs ds → RpAll K H' vs ds
  | .nil => .nil
  | .cons h r => .cons (Rp.exL e h) (RpAll.exL e r)
end
end
theorem hid_upd {a p : Addr} {H : Hp} {u : HO} (h : p ≠ a) : hid (some a) (upd H p u) = upd (hid (some a) H) p u := by
  funext b
  unfold hid upd
  by_cases c : b = p
  · subst c
    rw [if_neg (by simpa using fun z => h z.symm), if_pos rfl, if_pos rfl]
  · rw [if_neg c, if_neg c]
/-- a comprehension over a range whose elements are drawn -/
theorem lc_draws {te : TE} {vs : List Nat} {σ : L2.St} {j : Nat} {a : Addr} {n : Nat} {H1 : Hp} {R : V → Hp → Prop} {Q : VK} (hR : ∀ v H H', ExL (hid (some a) H) (hid (some a) H') → R v H → R v H') (hd : DiceAt H1 a) (hn : n ≤ 1000)
    (hw : ∀ x, wipe ((wipe σ vs).set j (some x)) vs = wipe σ vs)
    (turn : ∀ (i : Nat) H', i < n → Bt a H1 H' → DiceAt H' a → ∀ Q : VK, (∀ x H'', Bt a H' H'' → DiceAt H'' a → R x H'' → Q x H'') → te ((wipe σ vs).set j (some (.int ((0 : Int) + (i : Int))))) H' Q)
    (k : ∀ D xs H', H1 D = none → Bt a H1 H' → DiceAt H' a → H' D = some (.lst xs) → xs.length = n → (∀ x ∈ xs, R x H') → Q (.ref D) H') :
    ∀ D, H1 D = none → ∃ W : Nat → Nat → Hp → Prop, (∃ m, W 0 m (upd H1 D (.lst []))) ∧ ∀ i m H, W i m H →
      ((Itr 0 n).stop i H ∧ Q (.ref D) H) ∨ ((Itr 0 n).go i H ∧ ∃ Nx : Hp → Prop, (∀ H', Nx H' → ∃ m', m' < m ∧ W (i + 1) m' H') ∧ ∀ x H', (Itr 0 n).yld i H x H' → gName j x (wipe σ vs) H' fun σ2 H2 => wipe σ2 vs = wipe σ vs ∧ tYes σ2 H2 fun b H3 =>
        if b = true then te σ2 H3 fun y H4 => ∃ acc, H4 D = some (.lst acc) ∧ acc.length < sizeLine ∧ Nx (upd H4 D (.lst (acc ++ [y]))) else Nx H3) := fun D hD => by
  have hne : D ≠ a := hd.ne hD
  refine lc_range (lo := 0) (n := n) (fun i H' => i ≤ n ∧ ∃ acc, H' D = some (.lst acc) ∧ acc.length = i ∧ (∀ x ∈ acc, R x H') ∧ Bt a H1 H' ∧ DiceAt H' a) ⟨Nat.zero_le _, [], upd_same, rfl, fun x h => (by cases h), Bt.of (Ex.new hD), hd.ex (Ex.new hD)⟩ (fun i H' hi p => ?_) (fun H' p => ?_)
  · obtain ⟨_, acc, p1, p2, p3, p4, p5⟩ := p
    refine ⟨hw _, turn i H' hi p4 p5 _ fun x H'' hb hd2 hx => ?_⟩
    have h2 : H'' D = some (.lst acc) := hb.at hne p1
    have eL : ExL (hid (some a) H'') (hid (some a) (upd H'' D (.lst (acc ++ [x])))) := by
      rw [hid_upd hne]
      exact ExL.upd (hid_at h2 hne)
    refine ⟨acc, h2, sz_lt (by omega), hi, acc ++ [x], upd_same, by rw [List.length_append, p2]; rfl, fun y hy => ?_, ?_, ?_⟩
    · rcases List.mem_append.mp hy with hy | hy
      · exact hR _ _ _ ((ExL.of hb).trans eL) (p3 y hy)
      · rw [List.mem_singleton.mp hy]
        exact hR _ _ _ eL hx
    · have h3 := p4.trans hb
      intro b u hbu
      have := h3 b u hbu
      rw [hid_upd hne]
      have hbD : b ≠ D := fun z => by
        subst z
        have := hid_le _ _ hbu
        rw [hD] at this
        cases this
      rw [upd_ne hbD]
      exact this
    · obtain ⟨x0, x1, x2, h⟩ := hd2
      exact ⟨x0, x1, x2, by rw [upd_ne hne.symm]; exact h⟩
  · obtain ⟨_, acc, p1, p2, p3, p4, p5⟩ := p
    exact k D acc H' hD p4 p5 p1 p2 p3
/-- tuple(xs) -/
def rTupOf (K : PySem.W.Frag) : List V → Hp → VK → Prop := fun xs H Q => ∃ p ys, xs = [.ref p] ∧ ((SqL K H p ys ∧ ∀ l, H l = none → Q (.ref l) (upd H l (.tup ys))) ∨ (SqT K H p ys ∧ Q (.ref p) H))
theorem n_next {D : Ends} {σ : L2.St} {H : Hp} (h : D.nx σ H) : tNext D σ H := h
theorem n_ret {D : Ends} {σ : L2.St} {H : Hp} {te : TE} (h : te σ H D.rt) : tRet te D σ H := h
theorem n_cb {r : List V → Hp → VK → Prop} {t : TA} {σ : L2.St} {H : Hp} {Q : VK} (h : t σ H fun vs H1 => r vs H1 Q) : tCB r t σ H Q := h
theorem n_cons {te : TE} {t : TA} {σ : L2.St} {H : Hp} {Q : List V → Hp → Prop} (h : te σ H fun v H1 => t σ H1 fun vs H2 => Q (v :: vs) H2) : tCons te t σ H Q := h
theorem n_rng1 {ta : TA} {σ : L2.St} {H : Hp} {R : It → Hp → Prop} (h : ta σ H fun vs H1 => ∃ j : Int, vs = [.int j] ∧ -(2 ^ 62) ≤ j ∧ j < 2 ^ 62 ∧ R (Itr 0 j.toNat) H1) : iRng1 ta σ H R := h
end K0

namespace K0
open PySem PySem.Spec PyProof.Rows L2 Evl
/-! ### own comparisons, own len, own str -/
/-- what may stand on the right of an own == -/
def RightV (K : PySem.W.Frag) (C : Addr) (H : Hp) (y : V) : Prop :=
  y = .non ∨ (∃ b dy gs, y = .ref b ∧ H b = some (.ins C dy gs)) ∨ ∃ b xs, y = .ref b ∧ SqT K H b xs
section
variable {X : Cx} {CX : CXT} {k : Nat} {C g : Addr} {fd : FuncData} {ps : List Str} {sp : Sp} {E : XK}
/-- a def runs somewhere below the body -/
theorem call_below {A : Around} {pins : List (Addr × Obj)} {σ : L2.St} {H : Hp} {s : Shared} {Q : VK} {us : List Value} {vs : List V}
    (ro : Room k A) (fr : A.frames = X.A.frames) (F : FnOk X.prog X.w X.K X.mg X.base CX k g fd ps sp) (hb : Binds X.K fd ps []) (hx : Passes CX X E)
    (I : Inv X pins σ H s) (r : Vals vs us) (h : sp vs H Q E) : wpAny (model X.prog X.w) A (call (.ref g) us) (EP X pins σ Q) X.xe s := by
  have le : us.length = ps.length := r.length.symm.trans (F.len _ _ _ _ h)
  have e0 : Env0 X.prog X.w X.K X.mg X.base A X.stack s H :=
    let e := I.env0
    ⟨fr ▸ e.frames, e.mod, e.bs, e.bsz, e.funs, e.frf, e.hok, e.bare⟩
  have bb : BindsTo s fd ⟨us, []⟩ (ps.zip us) := by
    have z := hb s us I.kIn (by rw [List.append_nil]; exact le)
    rwa [List.append_nil] at z
  refine wpAny_call (codeAny_mono (F.run A X.stack s H ⟨us, []⟩ us vs Q E ro e0 bb r h) fun o t ho => ?_)
  rcases o with er | fl
  · exact hx pins σ H s er t I ho
  · cases fl with
    | ret u =>
      exact I.after ho
    | next => exact ho.elim
    | brk => exact ho.elim
    | cont => exact ho.elim
theorem right_ty {pins : List (Addr × Obj)} {σ : L2.St} {H : Hp} {s : Shared} {y : V} {u : Value} {M : Model} (I : Inv X pins σ H s) (ry : RelV y u) (h : RightV X.K C H y)
    (n1 : PySem.W.notFirst X.K C (.type "NoneType") = true) (n2 : PySem.W.notFirst X.K C (.type "tuple") = true) : ∃ tb, PySem.W.Looks M s.heap (typeOf u) tb ∧ PySem.W.notFirst X.K C tb = true := by
  rcases h with rfl | ⟨b, dy, gs, rfl, hb⟩ | ⟨b, xs, rfl, hb⟩
  · cases (show u = Value.none from ry)
    exact ⟨.type "NoneType", PySem.W.Looks.of_pure rfl, n1⟩
  · cases (show u = Value.ref b from ry)
    obtain ⟨mB, J, _⟩ := ins_get I.hok hb
    obtain ⟨od, J, _⟩ := J.look
    exact ⟨.ref C, J.type, by simp [PySem.W.notFirst]⟩
  · cases (show u = Value.ref b from ry)
    obtain ⟨its, _, ⟨o, ho, hc, _⟩, _⟩ := I.tuple hb
    refine ⟨.type "tuple", ?_, n2⟩
    have z : PySem.W.Looks M s.heap (typeOf (.ref b)) o.cls := (PySem.W.Looks.ld ho).andThen .now
    rwa [hc] at z
def rEqO (K : PySem.W.Frag) (C : Addr) (sp : Sp) (E : XK) : R2 := fun x y H Q => ∃ a dx fs, x = .ref a ∧ H a = some (.ins C dx fs) ∧ RightV K C H y ∧ sp [x, y] H (fun v H' => ∃ b, v = .bl b ∧ Q (.bl b) H') E
def rNeO (K : PySem.W.Frag) (C : Addr) (sp : Sp) (E : XK) : R2 := fun x y H Q => ∃ a dx fs, x = .ref a ∧ H a = some (.ins C dx fs) ∧ RightV K C H y ∧ sp [x, y] H (fun v H' => ∃ b, v = .bl b ∧ Q (.bl (!b)) H') E
theorem op_eqO (F : FnOk X.prog X.w X.K X.mg X.base CX k g fd ps sp) (hr : Room k X.A) (hb : Binds X.K fd ps []) (hx : Passes CX X E) (hs : PySem.W.findIn X.K (.ref C) "__eq__" = some (some (.ref g)))
    (hf : PySem.W.isFn X.K (.ref g) = true) (n1 : PySem.W.notFirst X.K C (.type "NoneType") = true) (n2 : PySem.W.notFirst X.K C (.type "tuple") = true) : OpR X (compareOp .Eq) (rEqO X.K C sp E) := by
  intro pins s σ H x y v u Q I rx ry h
  obtain ⟨a, dx, fs, rfl, ha, hy, hsp⟩ := h
  cases (show v = Value.ref a from rx)
  obtain ⟨tb, lt, nf⟩ := right_ty (M := model X.prog X.w) I ry hy n1 n2
  obtain ⟨mA, J, _⟩ := ins_get I.hok ha
  obtain ⟨od, J, _⟩ := J.look
  obtain ⟨m, hF⟩ := I.fr
  show wpAny (model X.prog X.w) X.A (richCompare .Eq (.ref a) u) _ _ _
  refine PySem.W.cmp_K (op := .Eq) hr.units0 hF I.ok.mod.kin J lt nf hs hf ?_
  refine wpAny_mono (call_below hr rfl F hb hx I (.cons rx (.cons ry .nil)) hsp) (fun r t z => ?_) fun _ _ q => q
  obtain ⟨w, H', I', rw', b, rfl, q⟩ := z
  cases (show r = Value.bool b from rw')
  exact ⟨.bl b, H', I', rfl, q⟩
/-- a special name that the class has from object -/
theorem special_blt {M : Model} {A : Around} {Ex : Value → Shared → Prop} {s : Shared} {K : PySem.W.Frag} {x C : Addr} {ox : Obj} {od : Option Obj} {name : Str} {id : String} {rest : List Value} {Q : Option Value → Shared → Prop}
    (kin : K.In s.heap) (J : PySem.W.InstAt s.heap x ox C od) (fi : PySem.W.findIn K (.ref C) name = some (some (.builtin id)))
    (bi : ∀ z, bindSpecial (.builtin id) z = pure (.builtin id, [z]))
    (h : wpAny M A (call (.builtin id) (.ref x :: rest)) (fun v => Q (some v)) Ex s) : wpAny M A (callSpecialIfBound? (.ref x) name rest) Q Ex s := by
  simp only [callSpecialIfBound?, bindSpecialIfBound?]
  have last : wpAny M A (call (.builtin id) ([.ref x] ++ rest) >>= fun v => pure (some v)) Q Ex s :=
    wpAny_bind (wpAny_mono h (fun _ _ z => wpAny_pure z) (fun _ _ z => z))
  refine wpAny_holding (wpAny_bind (wpAny_bind (wpAny_bind (J.type.here ((PySem.W.looks_findIn kin fi).here ?_)))))
  refine wpAny_bind (wpAny_askSetting (wpAny_ite ?_))
  split
  · refine wpAny_bind ((PySem.W.Looks.of_pure (bi (.ref x))).here (wpAny_pure ?_))
    exact last
  · refine wpAny_tryCatch (wpAny_bind ((PySem.W.Looks.of_pure (bi (.ref x))).here (wpAny_pure ?_)))
    exact last
theorem op_neO (F : FnOk X.prog X.w X.K X.mg X.base CX k g fd ps sp) (hr : Room (k + 1) X.A) (hb : Binds X.K fd ps []) (hx : Passes CX X E) (hs : PySem.W.findIn X.K (.ref C) "__eq__" = some (some (.ref g)))
    (hne : PySem.W.findIn X.K (.ref C) "__ne__" = some (some (.builtin "object.__ne__"))) (hm : PySem.W.mroIn X.K C (.type "object") = some true)
    (hf : PySem.W.isFn X.K (.ref g) = true) (n1 : PySem.W.notFirst X.K C (.type "NoneType") = true) (n2 : PySem.W.notFirst X.K C (.type "tuple") = true) : OpR X (compareOp .NotEq) (rNeO X.K C sp E) := by
  intro pins s σ H x y v u Q I rx ry h
  obtain ⟨a, dx, fs, rfl, ha, hy, hsp⟩ := h
  cases (show v = Value.ref a from rx)
  obtain ⟨tb, lt, nf⟩ := right_ty (M := model X.prog X.w) I ry hy n1 n2
  obtain ⟨mA, J, _⟩ := ins_get I.hok ha
  obtain ⟨od, J, _⟩ := J.look
  have one : wpAny (model X.prog X.w) X.A (tryCompare (.ref a) "__ne__" u) (fun o t => ∃ w, o = some w ∧ EP X pins σ Q w t) X.xe s := by
    unfold tryCompare
    refine wpAny_bind (special_blt I.kIn J hne PySem.F.cmp_object.ne.bind ?_)
    refine wpAny_call (codeAny_call_builtin PySem.F.cmp_object.ne.plain PySem.F.cmpEntry_ne (PySem.W.check_slot PySem.F.cmpKind_ne PySem.F.cmpSplit_ne (J.type.andThen (PySem.W.looks_mroIn I.kIn hm)) (PySem.F.cmpArgs_ne _ _) ?_))
    unfold Builtin.«object.__ne__»
    refine wpAny_bind (m := slotArgs "__ne__" 1 _) (wpAny_pure ?_)
    refine wpAny_bind (m := cRoomFor _ _) (wpAny_cRoomFor hr.in1.units0 ?_)
    refine wpAny_bind (m := callSpecialIfBound? (.ref a) (Str.ofString "__eq__") _) (PySem.W.ifBound_K I.kIn J hs hf (wpAny_mono (call_below hr.in1 rfl F hb hx I (.cons rx (.cons ry .nil)) hsp) (fun r t z => ?_) fun _ _ q => q))
    obtain ⟨w, H', I', rw', b, rfl, q⟩ := z
    cases (show r = Value.bool b from rw')
    refine wpAny_bind (m := truthy (.bool _)) (wpAny_truthy_bool ?_)
    have z : EP X pins σ Q (.bool (!b)) t := ⟨.bl (!b), H', I', rfl, q⟩
    first
      | exact wpAny_pure (wpAny_pure ⟨_, rfl, z⟩)
      | exact wpAny_pure ⟨_, rfl, z⟩
  show wpAny (model X.prog X.w) X.A (richCompare .NotEq (.ref a) u) _ _ _
  unfold richCompare
  simp only [oneThing_ref]
  refine wpAny_holding (wpAny_bind (wpAny_cRoomFor hr.units0 ?_))
  rw [cmpInfo_NotEq]
  dsimp only
  refine wpAny_bind (J.type.here (wpAny_bind (lt.here ?_)))
  have fin : ∀ (rest : Option Value → Sem Value), (∀ v, rest (some v) = pure v) → wpAny (model X.prog X.w) X.A (tryCompare (.ref a) "__ne__" u >>= rest) (EP X pins σ Q) X.xe s := fun rest hrest =>
    wpAny_bind (wpAny_mono one (fun o t z => by
      obtain ⟨w, rfl, q⟩ := z
      rw [hrest]
      exact wpAny_pure q) fun _ _ q => q)
  split
  · rename_i nq
    have le : PySem.W.subIn X.K tb (.ref C) = some false := by
      rcases Bool.or_eq_true_iff.mp nf with z | z
      · rw [beq_iff_eq.mp z] at nq
        simp at nq
      · exact beq_iff_eq.mp z
    refine wpAny_bind ((PySem.W.looks_subIn I.kIn le).here ?_)
    simp only [Bool.false_eq_true, if_false]
    exact fin _ fun _ => rfl
  · refine wpAny_bind (wpAny_pure ?_)
    simp only [Bool.false_eq_true, if_false]
    exact fin _ fun _ => rfl
/-- len(o) by an own def -/
def rLenO (C : Addr) (sp : Sp) (E : XK) : List V → Hp → VK → Prop := fun xs H Q => ∃ a dx fs, xs = [.ref a] ∧ H a = some (.ins C dx fs) ∧ sp [.ref a] H (fun v H' => ∃ n : Nat, v = .int (n : Int) ∧ n < 1000000 ∧ Q v H') E
theorem cr_lenO (F : FnOk X.prog X.w X.K X.mg X.base CX k g fd ps sp) (hr : Room (k + 1) X.A) (hb : Binds X.K fd ps []) (hx : Passes CX X E) (hs : PySem.W.findIn X.K (.ref C) "__len__" = some (some (.ref g)))
    (hf : PySem.W.isFn X.K (.ref g) = true) : CallR X (.builtin "len") (rLenO C sp E) := by
  intro pins s σ H xs us Q I r h
  obtain ⟨a, dx, fs, rfl, ha, hsp⟩ := h
  obtain ⟨u, rfl, ru⟩ := vals1 r
  cases (show u = Value.ref a from ru)
  obtain ⟨mA, J, _⟩ := ins_get I.hok ha
  obtain ⟨od, J, _⟩ := J.look
  obtain ⟨m, hF⟩ := I.fr
  refine PySem.W.len_K hF I.ok.mod.kin J hs hf (wpAny_mono (call_below hr.in1 rfl F hb hx I r hsp) (fun o t z => ?_) fun _ _ q => q)
  obtain ⟨w, H', I', rw', n, rfl, hn, q⟩ := z
  obtain ⟨tk, rfl⟩ := (show ∃ tk, o = Value.int (n : Int) tk from rw')
  exact ⟨⟨by omega, by omega⟩, .int (n : Int), H', I'.tok _, ⟨_, rfl⟩, q⟩
/-- str(o) by an own def -/
def rStrO (C : Addr) (sp : Sp) (E : XK) : List V → Hp → VK → Prop := fun xs H Q => ∃ a dx fs, xs = [.ref a] ∧ H a = some (.ins C dx fs) ∧ sp [.ref a] H (fun v H' => ∃ y : Str, v = .str y ∧ Q v H') E
theorem cr_strO (F : FnOk X.prog X.w X.K X.mg X.base CX k g fd ps sp) (hr : Room (k + 2) X.A) (hb : Binds X.K fd ps []) (hx : Passes CX X E) (hs : PySem.W.findIn X.K (.ref C) "__str__" = some (some (.ref g)))
    (hf : PySem.W.isFn X.K (.ref g) = true) : CallR X (.type "str") (rStrO C sp E) := by
  intro pins s σ H xs us Q I r h
  obtain ⟨a, dx, fs, rfl, ha, hsp⟩ := h
  obtain ⟨u, rfl, ru⟩ := vals1 r
  cases (show u = Value.ref a from ru)
  obtain ⟨mA, J, _⟩ := ins_get I.hok ha
  obtain ⟨od, J, _⟩ := J.look
  refine PySem.W.kso_call hr.in1.in1.units0 I.kIn J hs hf (wpAny_mono (call_below hr.in1.in1 rfl F hb hx I r hsp) (fun o t z => ?_) fun _ _ q => q)
  obtain ⟨w, H', I', rw', y, rfl, q⟩ := z
  obtain ⟨tk, rfl⟩ := (show ∃ tk, o = Value.str y tk from rw')
  exact ⟨.str y, H', I', ⟨_, rfl⟩, q⟩
/-- the call of a local name that holds a class -/
def tMakeL (i : Nat) (C : Addr) (sp : Sp) (E : XK) (t : TA) : TE := fun σ H Q => σ[i]? = some (some (.ref C)) ∧ tMake C sp [] E t σ H Q
theorem pe_makeL {i : Nat} {x : Str} {p pos : Pos} {e : Expr} {es : List Expr} {t : TA} (M : Mk X.K C g) (F : FnOk X.prog X.w X.K X.mg X.base CX k g fd ps sp) (hr : Room (k + 1) X.A)
    (hN : X.N[i]? = some x) (hv : Vis X.env.scope x) (hb : Binds X.K fd ps []) (hx : Passes CX X E) (ha : PA X (e :: es) t)
    (d1 : (x == ("__debug__" : Str)) = false := by decide) (d2 : (x == ("__classdict__" : Str)) = false := by decide)
    (st : starEach (e :: es) X.env = (false, eval e X.env) :: starEach es X.env := by rfl) (pl : (backTo pos (starEach es X.env)).any (·.1) = false := by rfl) :
    PE X (.Call (.Name x p) (e :: es) [] pos) (tMakeL i C sp E t) := by
  constructor
  intro pins s σ H Q I h
  refine wpAny_Call_Name_kw (thn ((pe_var (pos := p) hN hv d1 d2).run pins s σ H (fun v H1 => v = .ref C ∧ H1 = H) I ⟨.ref C, h.1, rfl, rfl⟩) fun u t1 z => ?_)
  obtain ⟨v, H1, I1, r1, rfl, rfl⟩ := z
  cases r1
  refine PySem.W.callWith_K (h₀ := X.base) I.ok.mod.kin M.kp (thn (ha.run pos pins t1 σ _ _ I1 h.2) fun us t2 z => ?_) st pl
  obtain ⟨vs, H2, I2, r, q⟩ := z
  exact ⟨I2.kIn, run_make M F hr hb .nil hx I2 r q⟩
end
end K0

namespace K0
open PySem L2 Evl
/-! ### data: what can be compared -/
mutual
def D.clean : D → Bool
  | .oth => false
  | .tup ds => D.cleanL ds
  | _ => true
def D.cleanL : List D → Bool
  | [] => true
  | d :: ds => d.clean && D.cleanL ds
end
mutual
def D.py : D → PyData
  | .non => .none
  | .bl b => .bool b
  | .int i => .int i
  | .str s => .str s
  | .tup ds => .tuple (D.pyL ds)
  | .oth => .none
def D.pyL : List D → List PyData
  | [] => []
  | d :: ds => d.py :: D.pyL ds
end
theorem pyL_map : ∀ ds : List D, D.pyL ds = ds.map D.py
  | [] => rfl
  | d :: ds => by
    show d.py :: D.pyL ds = _
    rw [pyL_map ds]
    rfl
theorem cleanL_all : ∀ ds : List D, D.cleanL ds = ds.all D.clean
  | [] => rfl
  | d :: ds => by
    show (d.clean && D.cleanL ds) = _
    rw [cleanL_all ds]
    rfl
section
variable {K : PySem.W.Frag} {H : Hp}
mutual
theorem Rp.dp {v : V} {d : D} (c : d.clean = true) : Rp K H v d → Dp K H v d.py
  | .non => .non
  | .bl b => .bl b
  | .int i => .int i
  | .str s => .str s
  | .tup h r => .tup h (RpAll.dp c r)
  | .lst h => by cases c
  | .dct h => by cases c
theorem RpAll.dp {vs : List V} {ds : List D} (c : D.cleanL ds = true) : RpAll K H vs ds → DpAll K H vs (D.pyL ds)
  | .nil => .nil
  | .cons h r => by
    have c' := Bool.and_eq_true_iff.mp c
    exact .cons (Rp.dp c'.1 h) (RpAll.dp c'.2 r)
end
end
mutual
theorem eqv_self : ∀ d : D, d.clean = true → PyData.eqv d.py d.py = true
  | .non, _ => rfl
  | .bl b, _ => by simp [D.py, PyData.eqv]
  | .int i, _ => by simp [D.py, PyData.eqv]
  | .str s, _ => by simp [D.py, PyData.eqv]
  | .tup ds, c => by
    simp only [D.py, PyData.eqv]
    exact eqvAll_self ds c
  | .oth, c => by cases c
theorem eqvAll_self : ∀ ds : List D, D.cleanL ds = true → PyData.eqvAll (D.pyL ds) (D.pyL ds) = true
  | [], _ => rfl
  | d :: ds, c => by
    have c' := Bool.and_eq_true_iff.mp c
    simp only [D.pyL, PyData.eqvAll]
    rw [eqv_self d c'.1, eqvAll_self ds c'.2]
    rfl
end
/-- clean, of texts that can lie there, not deep -/
def D.fine (n : Nat) (d : D) : Bool := d.clean && d.py.canLay0 && decide (d.py.depth ≤ n)
theorem fine_c {n : Nat} {d : D} (h : d.fine n = true) : d.clean = true := (Bool.and_eq_true_iff.mp (Bool.and_eq_true_iff.mp h).1).1
theorem fine_l {n : Nat} {d : D} (h : d.fine n = true) : d.py.canLay0 = true := (Bool.and_eq_true_iff.mp (Bool.and_eq_true_iff.mp h).1).2
theorem fine_d {n : Nat} {d : D} (h : d.fine n = true) : d.py.depth ≤ n := of_decide_eq_true (Bool.and_eq_true_iff.mp h).2
theorem fine_all {n : Nat} : ∀ ds : List D, (∀ d ∈ ds, d.fine n = true) → D.cleanL ds = true ∧ PyData.canLayAll0 (D.pyL ds) = true ∧ PyData.depthAll (D.pyL ds) ≤ n
  | [], _ => ⟨rfl, rfl, Nat.zero_le _⟩
  | d :: ds, h => by
    have h1 := h d (List.mem_cons_self ..)
    obtain ⟨a, b, c⟩ := fine_all ds fun e he => h e (List.mem_cons_of_mem _ he)
    refine ⟨Bool.and_eq_true_iff.mpr ⟨fine_c h1, a⟩, ?_, ?_⟩
    · simp only [D.pyL, PyData.canLayAll0]
      rw [fine_l h1, b]
      rfl
    · simp only [D.pyL, PyData.depthAll]
      exact Nat.max_le.mpr ⟨fine_d h1, c⟩
theorem fine_tup {n : Nat} {ds : List D} (h : ∀ d ∈ ds, d.fine n = true) : (D.tup ds).fine (n + 1) = true := by
  obtain ⟨a, b, c⟩ := fine_all ds h
  refine Bool.and_eq_true_iff.mpr ⟨Bool.and_eq_true_iff.mpr ⟨a, ?_⟩, decide_eq_true ?_⟩
  · simp only [D.py, PyData.canLay0]
    exact b
  · simp only [D.py, PyData.depth]
    omega
theorem fine_le {n m : Nat} {d : D} (h : d.fine n = true) (l : n ≤ m) : d.fine m = true :=
  Bool.and_eq_true_iff.mpr ⟨Bool.and_eq_true_iff.mpr ⟨fine_c h, fine_l h⟩, decide_eq_true (Nat.le_trans (fine_d h) l)⟩
theorem shaped_of {n : Nat} {d : D} (h : d.fine n = true) (l : n ≤ 64) : SeqAt.shaped d.py = true :=
  Bool.and_eq_true_iff.mpr ⟨fine_l h, decide_eq_true (Nat.le_trans (fine_d h) l)⟩
theorem shapedL_of {n : Nat} {ds : List D} (h : ∀ d ∈ ds, d.fine n = true) (l : n + 1 ≤ 64) : SeqAt.shaped (.list (D.pyL ds)) = true := by
  obtain ⟨a, b, c⟩ := fine_all ds h
  refine Bool.and_eq_true_iff.mpr ⟨?_, decide_eq_true ?_⟩
  · simp only [PyData.canLay0]
    exact b
  · simp only [PyData.depth]
    omega
/-! ### the blocks of the law -/
def menu : List D := [.non, .tup [.str "a"], .tup [.str "b", .int 1], .tup [], .tup [.int 1, .non, .tup [.str "x", .tup [.int 2]]], .tup [.int 0], .tup [.str "a"], .tup [.int 1, .non], .tup [.str "b"]]
def D.block : D → Bool
  | .non => true
  | .tup ds => D.plain 12 (.tup ds)
  | _ => false
theorem menu_all {p : D → Bool} (h : menu.all p = true) {d : D} (m : d ∈ menu) : p d = true := List.all_eq_true.mp h d m
theorem blk_block {d : D} (m : d ∈ menu) : d.block = true := menu_all (by decide +kernel) m
theorem blk_fine {d : D} (m : d ∈ menu) : d.fine 5 = true := menu_all (by decide +kernel) m
theorem blk_size {d : D} (m : d ∈ menu) : d.size ≤ 20 := of_decide_eq_true (menu_all (p := fun d => decide (d.size ≤ 20)) (by decide +kernel) m)
theorem size_le : ∀ ds : List D, (∀ d ∈ ds, d.size ≤ 20) → D.sizeL ds ≤ 20 * ds.length
  | [], _ => Nat.le_refl _
  | d :: ds, h => by
    have h1 := h d (List.mem_cons_self ..)
    have h2 := size_le ds fun e he => h e (List.mem_cons_of_mem _ he)
    simp only [D.sizeL, List.length_cons]
    omega
def prD (p : Nat × D) : D := .tup [.int (p.1 : Int), p.2]
theorem prD_fine {p : Nat × D} (h : p.2 ∈ menu) : (prD p).fine 6 = true := fine_tup fun d hd => by
  rcases List.mem_cons.mp hd with rfl | hd
  · simp [D.fine, D.clean, D.py, PyData.canLay0, PyData.depth]
  · rw [List.mem_singleton.mp hd]
    exact blk_fine h
/-- the blocks behind some puts -/
def rd (S : List D) (W : List (Nat × D)) : List D := W.foldl (fun s p => s.set p.1 p.2) S
theorem rd_len (S : List D) (W : List (Nat × D)) : (rd S W).length = S.length := by
  unfold rd
  induction W generalizing S with
  | nil => rfl
  | cons p W ih =>
    rw [List.foldl_cons, ih, List.length_set]
theorem rd_mem {S : List D} {W : List (Nat × D)} (h : ∀ d ∈ S, d ∈ menu) (g : ∀ p ∈ W, p.2 ∈ menu) : ∀ d ∈ rd S W, d ∈ menu := by
  unfold rd
  induction W generalizing S with
  | nil => exact h
  | cons p W ih =>
    rw [List.foldl_cons]
    refine ih (fun d hd => ?_) fun q hq => g q (List.mem_cons_of_mem _ hq)
    rcases List.mem_or_eq_of_mem_set hd with hd | rfl
    · exact h d hd
    · exact g p (List.mem_cons_self ..)
theorem rd_take {S : List D} {W : List (Nat × D)} {i : Nat} {p : Nat × D} (h : W[i]? = some p) : rd S (W.take (i + 1)) = (rd S (W.take i)).set p.1 p.2 := by
  unfold rd
  rw [List.take_succ, h, List.foldl_append]
  rfl
/-- what holds of all disks here -/
structure DOk (S : List D) (W : List (Nat × D)) : Prop where
  lo : 1 ≤ S.length
  hi : S.length ≤ 200
  wl : W.length ≤ 400
  bs : ∀ d ∈ S, d ∈ menu
  bw : ∀ p ∈ W, p.1 < S.length ∧ p.2 ∈ menu
theorem DOk.sync {S : List D} {W : List (Nat × D)} (h : DOk S W) : DOk (rd S W) [] :=
  ⟨by rw [rd_len]; exact h.lo, by rw [rd_len]; exact h.hi, Nat.zero_le _, rd_mem h.bs fun p hp => (h.bw p hp).2, fun p hp => by cases hp⟩
theorem DOk.fs {S : List D} {W : List (Nat × D)} (h : DOk S W) : (D.tup S).fine 8 = true := fine_le (fine_tup fun d hd => blk_fine (h.bs d hd)) (by decide)
theorem DOk.fw {S : List D} {W : List (Nat × D)} (h : DOk S W) : (D.tup (W.map prD)).fine 8 = true := fine_le (fine_tup (n := 6) fun d hd => by
  obtain ⟨p, hp, rfl⟩ := List.mem_map.mp hd
  exact prD_fine (h.bw p hp).2) (by decide)
/-- a disk stands at p -/
structure DiskAt (K : PySem.W.Frag) (C : Addr) (H : Hp) (p : Addr) (S : List D) (W : List (Nat × D)) : Prop where
  ob : ∃ dx a b, H p = some (.ins C dx [("_sure", .ref a), ("_waiting", .ref b)]) ∧ Rp K H (.ref a) (.tup S) ∧ Rp K H (.ref b) (.tup (W.map prD))
  ok : DOk S W
theorem DiskAt.ex {K : PySem.W.Frag} {C : Addr} {H H' : Hp} {p : Addr} {S : List D} {W : List (Nat × D)} (e : Ex H H') (h : DiskAt K C H p S W) : DiskAt K C H' p S W := by
  obtain ⟨⟨dx, a, b, h1, h2, h3⟩, ok⟩ := h
  exact ⟨⟨dx, a, b, e _ _ h1, h2.ex e, h3.ex e⟩, ok⟩
theorem Rp.tupI {K : PySem.W.Frag} {H : Hp} {v : V} {ds : List D} (h : Rp K H v (.tup ds)) : ∃ a xs, v = .ref a ∧ SqT K H a xs ∧ RpAll K H xs ds := by
  cases h with
  | tup h r => exact ⟨_, _, rfl, h, r⟩
theorem Rp.pairI {K : PySem.W.Frag} {H : Hp} {x : V} {p : Nat × D} (h : Rp K H x (prD p)) : ∃ t v, x = .ref t ∧ SqT K H t [.int (p.1 : Int), v] ∧ Rp K H v p.2 := by
  obtain ⟨a, xs, rfl, hs, hr⟩ := h.tupI
  cases hr with
  | cons h1 r =>
    cases h1
    cases r with
    | cons h2 r =>
      cases r
      exact ⟨a, _, rfl, hs, h2⟩
theorem RpAll.setI {K : PySem.W.Frag} {H : Hp} : ∀ {vs : List V} {ds : List D} (i : Nat) {v : V} {d : D}, RpAll K H vs ds → Rp K H v d → RpAll K H (vs.set i v) (ds.set i d)
  | _, _, i, _, _, .nil, _ => by cases i <;> exact .nil
  | _, _, 0, _, _, .cons h r, g => .cons g r
  | _, _, i + 1, _, _, .cons h r, g => .cons h (RpAll.setI i r g)
theorem f_sw : ¬ (("_sure" : Str) = "_waiting") := by decide +kernel
theorem f_ws : ¬ (("_waiting" : Str) = "_sure") := by decide +kernel
theorem flds_new (x y : V) : putF "_waiting" y (putF "_sure" x []) = ([("_sure", x), ("_waiting", y)] : List (Str × V)) := by
  show (if ("_sure" : Str) = "_waiting" then _ else (("_sure" : Str), x) :: putF "_waiting" y []) = _
  rw [if_neg f_sw]
  all_goals rfl
theorem flds_s (x y z : V) : putF "_sure" z [("_sure", x), ("_waiting", y)] = ([("_sure", z), ("_waiting", y)] : List (Str × V)) := by
  show (if ("_sure" : Str) = "_sure" then _ else _) = _
  rw [if_pos rfl]
theorem flds_w (x y z : V) : putF "_waiting" z [("_sure", x), ("_waiting", y)] = ([("_sure", x), ("_waiting", z)] : List (Str × V)) := by
  show (if ("_sure" : Str) = "_waiting" then _ else (("_sure" : Str), x) :: (if ("_waiting" : Str) = "_waiting" then _ else _)) = _
  rw [if_neg f_sw, if_pos rfl]
theorem look_s (x y : V) : ([("_sure", x), ("_waiting", y)] : List (Str × V)).lookup ("_sure" : Str) = some x := by
  rw [List.lookup_cons, show (("_sure" : Str) == ("_sure" : Str)) = true from by decide +kernel]
theorem look_w (x y : V) : ([("_sure", x), ("_waiting", y)] : List (Str × V)).lookup ("_waiting" : Str) = some y := by
  rw [List.lookup_cons, show (("_waiting" : Str) == ("_sure" : Str)) = false from by decide +kernel, List.lookup_cons, show (("_waiting" : Str) == ("_waiting" : Str)) = true from by decide +kernel]
theorem look_no (x y : V) {m : Str} (h1 : (m == ("_sure" : Str)) = false) (h2 : (m == ("_waiting" : Str)) = false) : ([("_sure", x), ("_waiting", y)] : List (Str × V)).lookup m = none := by
  rw [List.lookup_cons, h1, List.lookup_cons, h2]
  rfl
/-! ### readings -/
section
variable {K : PySem.W.Frag} {σ : L2.St} {H H' : Hp} {ta tb te tv : TE} {x y z v : V} {C a dx : Addr} {fs : List (Str × V)} {f : Str} {D : Ends} {tz : TS}
theorem ev_fld (h : Ev ta σ H (.ref a)) (ha : H a = some (.ins C dx fs)) (c : Cls K C) (n : NoAttr K C f) (l : fs.lookup f = some v) : Ev (tFld K ta f) σ H v := fun H1 e Q q =>
  h H1 e _ fun H2 e2 => ⟨a, C, dx, fs, v, rfl, (e.trans e2) _ _ ha, c, n, l, q H2 e2⟩
theorem q_fld (hv : Ev tv σ H v) (ho : Ev ta σ H (.ref a)) (ha : H a = some (.ins C dx fs)) (c : Cls K C) (n : NoAttr K C f) (hl : fs.length < 1000) (k : ∀ H1, Ex H H1 → tz D σ (upd H1 a (.ins C dx (putF f v fs)))) :
    tSeq (sFld K ta tv f) tz D σ H := hv H (Ex.refl H) _ fun H1 e1 => ho H1 e1 _ fun H2 e2 => ⟨a, C, dx, fs, rfl, (e1.trans e2) _ _ ha, c, n, hl, k H2 (e1.trans e2)⟩
theorem s_fldU {xs : List V} (hv : EvU tv σ H xs) (ho : Ev ta σ H (.ref a)) (ha : H a = some (.ins C dx fs)) (c : Cls K C) (n : NoAttr K C f) (hl : fs.length < 1000)
    (k : ∀ p H1, H p = none → Ex H H1 → H1 p = some (.tup xs) → D.nx σ (upd H1 a (.ins C dx (putF f (.ref p) fs)))) :
    sFld K ta tv f D σ H := hv H (Ex.refl H) _ fun p H1 hp e1 h1 => ho H1 e1 _ fun H2 e2 => ⟨a, C, dx, fs, rfl, (e1.trans e2) _ _ ha, c, n, hl, k p H2 hp (e1.trans e2) (e2 _ _ h1)⟩
theorem q_asgMk {sp : Sp} {E : XK} {i : Nat} {xs : List V} (h : EvU te σ H xs)
    (k : ∀ p H1, H p = none → Ex H H1 → H1 p = some (.tup xs) → ∀ x dx, H1 x = none → H1 dx = none → dx ≠ x → sp [.ref x, .ref p] (upd (upd H1 dx (.own x)) x (.ins C dx [])) (fun v H2 => v = .non ∧ tz D (σ.set i (some (.ref x))) H2) E) :
    tSeq (tAsg (tMake C sp [] E (tCons te tNil)) (gName i)) tz D σ H := h H (Ex.refl H) _ fun p H1 hp e h1 => k p H1 hp e h1
theorem eu_tupOf {p : Addr} {xs : List V} (h : Ev ta σ H (.ref p)) (hx : SqL K H p xs) : EvU (tCB (rTupOf K) (tCons ta tNil)) σ H xs := fun H1 e Q q =>
  h H1 e _ fun H2 e2 => ⟨p, xs, rfl, .inl ⟨ex_l (e.trans e2) hx, fun l hl => q l _ (fresh_back e2 hl) (e2.trans (Ex.new hl)) upd_same⟩⟩
theorem el_listT {p : Addr} {xs : List V} (h : Ev ta σ H (.ref p)) (hx : SqT K H p xs) : EvL (tCB (rListS K) (tCons ta tNil)) σ H xs := fun H1 e Q q =>
  h H1 e _ fun H2 e2 => ⟨p, xs, rfl, .inr (ex_t (e.trans e2) hx), fun l hl => q l _ (fresh_back e2 hl) (e2.trans (Ex.new hl)) upd_same⟩
theorem rc_kitI {P : V → Prop} {n : String} {b : Bool} {dy : Addr} {gs : List (Str × V)} {p : Addr} (o : ObjC K C) (cl : Cls K C) (hp : H p = some (.ins C dy gs)) : RC (rIsi K) [.ref p, .ref C] H (.bl true) := fun H1 e Q q =>
  ⟨_, _, _, _, _, rfl, .own C, .base (.ins (e _ _ hp) cl o.ca o.cg o.ct o.co), by unfold PySem.W.kitOne; rw [if_pos (by simp)], q H1 (Ex.refl _)⟩
end
/-- the promise of a value, by what it is -/
def RetR (K : PySem.W.Frag) (d : D) (H : Hp) (Q : VK) : Prop := ∀ v H', Ex H H' → Rp K H' v d → Q v H'
def RetDisk (K : PySem.W.Frag) (C : Addr) (S : List D) (W : List (Nat × D)) (H : Hp) (Q : VK) : Prop := ∀ p H', Ex H H' → DiskAt K C H' p S W → Q (.ref p) H'
theorem fnr_of {P : Program} {w : World} {K : PySem.W.Frag} {mg : Str → Option Value} {base : Heap} {CX : CXT} {k : Nat} {f : Addr} {fd : FuncData} {ps : List Str} {sp : Sp} (F : FnOk P w K mg base CX k f fd ps sp) (hb : Binds K fd ps []) :
    FnR P w K mg base CX k f sp := (F.raw hb .nil).imp fun vs H Q E h => by
  rw [List.append_nil]
  exact h
end K0

namespace K0
open PySem L2 Evl
section
variable {P : Program} {w : World} {K : PySem.W.Frag} {mg : Str → Option Value} {base : Heap} {A : Ad} {D : Fd}
def sp_check_number (K : PySem.W.Frag) : Sp := fun vs H Q _ => ∃ x d lo hi, vs = [x, .int lo, .int hi] ∧ Rp K H x d ∧ d.within lo hi = true ∧ RetV .non H Q
theorem len_check_number {vs : List V} {H : Hp} {Q : VK} {E : XK} (h : sp_check_number K vs H Q E) : vs.length = 3 := by
  obtain ⟨x, d, lo, hi, rfl, _⟩ := h
  rfl
theorem sv_check {H : Hp} {i lo hi : Int} (h : (K0.D.int i).within lo hi = true) : SpV (sp_check_number K) [.int i, .int lo, .int hi] H .non := fun H1 e Q q E => ⟨.int i, .int i, lo, hi, rfl, .int i, h, q⟩
theorem ok_check_number (T : Txt K mg A D) : FnOk P w K mg base CX0 3 A.check_number D.check_number ["given", "least", "most"] (sp_check_number K) := by
  have G_is_within : FnOk P w K mg base CX0 2 A.is_within D.is_within ["value", "least", "most"] (sp_is_within K) := ok_is_within T
  obtain ⟨t_MAX_NUMBER, c_MAX_NUMBER⟩ := T.c_MAX_NUMBER
  refine T.F_check_number.ok sc_check_number (fun vs H Q E h => len_check_number h) (fun cdv A0 outer s H vs Q E hr h => ?_)
  refine ⟨_, PSs.nox (pss_one (ps_if (pt_not (pt_val (pe_call G_is_within (hr.mono (by decide)) rfl T.g_is_within T.F_is_within.kp T.b_is_within .nil pass0 (pa_cons (pv 0) (pa_cons (pv 1) (pa_cons (pv 2) pa_nil)))))) (pss_one ps_never) pss_nil)), ?_⟩
  obtain ⟨x, d, lo, hi, rfl, hx, hd, k⟩ := h
  refine s_when (et_is (et_not (et_B (ev_call (ea_cons (ev_var rfl) (ea_cons (ev_var rfl) (ea_cons (ev_var rfl) ea_nil))) (sv_within hx)))) (b := false) (by rw [hd]; rfl)) (fun z => by cases z) fun _ H1 e1 => ?_
  exact k H1 e1
def sp_is_block (K : PySem.W.Frag) : Sp := spS K0.D.block K
theorem len_is_block {vs : List V} {H : Hp} {Q : VK} {E : XK} (h : sp_is_block K vs H Q E) : vs.length = 1 := spS_len h
theorem ok_is_block (T : Txt K mg A D) : FnOk P w K mg base CX0 5 A.is_block D.is_block ["value"] (sp_is_block K) := by
  have G_is_plain : FnOk P w K mg base CX0 4 A.is_plain D.is_plain ["value"] (sp_is_plain K) := ok_is_plain T
  refine T.F_is_block.ok sc_is_block (fun vs H Q E h => len_is_block h) (fun cdv A0 outer s H vs Q E hr h => ?_)
  refine ⟨_, (pss_one (ps_ret (pe_or (pe_cmpR op_isN (pv 0) pe_non (nomark _)) (pe_one (pe_and (pe_callB call_isi (by rfl) T.b_isinstance (by decide +kernel) (pa_cons (pv 0) (pa_cons (pe_bltn (v := .ty "tuple") (u := .type "tuple") (by rfl) T.b_tuple (by decide +kernel) rfl) pa_nil))) (pe_one (pe_call G_is_plain (hr.mono (by decide)) rfl T.g_is_plain T.F_is_plain.kp T.b_is_plain .nil pass0 (pa_cons (pv 0) pa_nil)))))))), ?_⟩
  obtain ⟨x, d, rfl, hx, hs, k⟩ := h
  refine s_ret (ev_is (ev_orV (a := d.isNon) (b := d.isTup && d.plain 12) (ev_is (ev_op (ev_var rfl) ev_c rv_isN) (congrArg V.bl hx.isN)) fun _ => ?_) ?_) fun H2 e2 => k H2 e2
  · exact ev_andV (ev_cb (ea_cons (ev_var rfl) (ea_cons ev_c ea_nil)) (rc_tup hx)) fun _ => ev_call (ea_cons (ev_var rfl) ea_nil) (svS hx hs)
  · cases d <;> rfl
def D.blocks (lo : Int) : K0.D → Bool
  | .tup ds => decide (lo ≤ (ds.length : Int)) && decide ((ds.length : Int) ≤ 200) && ds.all K0.D.block
  | _ => false
def sp_are_blocks (K : PySem.W.Frag) : Sp := fun vs H Q _ => ∃ x d lo, vs = [x, .int lo] ∧ Rp K H x d ∧ d.size ≤ 30000 ∧ RetV (.bl (d.blocks lo)) H Q
theorem len_are_blocks {vs : List V} {H : Hp} {Q : VK} {E : XK} (h : sp_are_blocks K vs H Q E) : vs.length = 2 := by
  obtain ⟨x, d, lo, rfl, _⟩ := h
  rfl
theorem sv_blocks {H : Hp} {x : V} {d : K0.D} {lo : Int} (h : Rp K H x d) (hs : d.size ≤ 30000) : SpV (sp_are_blocks K) [x, .int lo] H (.bl (d.blocks lo)) := fun H1 e Q q E => ⟨x, d, lo, rfl, h.ex e, hs, q⟩
theorem et_chain_le {σ : L2.St} {H : Hp} {ta tb tc : TE} {i j k : Int} (ha : Ev ta σ H (.int i)) (hb : Ev tb σ H (.int j)) (hc : Ev tc σ H (.int k)) :
    EvT (tB (tChain (rI0 fun i j => .bl (decide (i ≤ j))) (rI0 fun i j => .bl (decide (i ≤ j))) ta tb tc)) σ H (decide (i ≤ j) && decide (j ≤ k)) := et_B (ev_chain_le ha hb hc)
theorem ok_are_blocks (T : Txt K mg A D) : FnOk P w K mg base CX0 6 A.are_blocks D.are_blocks ["value", "least"] (sp_are_blocks K) := by
  have G_is_block : FnOk P w K mg base CX0 5 A.is_block D.is_block ["value"] (sp_is_block K) := ok_is_block T
  obtain ⟨t_MAX_BLOCKS, c_MAX_BLOCKS⟩ := T.c_MAX_BLOCKS
  refine T.F_are_blocks.ok sc_are_blocks (fun vs H Q E h => len_are_blocks h) (fun cdv A0 outer s H vs Q E hr h => ?_)
  refine ⟨_, (pss_cons (ps_if (PW.pt (pw_or (pt_not (pt_val (pe_callB call_isi (by rfl) T.b_isinstance (by decide +kernel) (pa_cons (pv 0) (pa_cons (pe_bltn (v := .ty "tuple") (u := .type "tuple") (by rfl) T.b_tuple (by decide +kernel) rfl) pa_nil))))) (pw_or1 (pt_not (pt_chain op_le op_le (pv 1) (pe_callB call_len (by rfl) T.b_len (by decide +kernel) (pa_cons (pv 0) pa_nil)) (pe_glob (v := .int (200)) rfl c_MAX_BLOCKS ⟨_, rfl⟩)))))) (pss_one (ps_ret pe_bl)) pss_nil)
  (pss_one (ps_ret (pe_callB (cr_all rfl) (by rfl) T.b_all (by decide +kernel) (pa_cons (pe_lc (own := [("block", 2)]) (g := gName 2) (tt := tYes) rfl sc_are_blocks.nd (pi_tup (pv 0)) (blkOk_by (own := [("block", 2)]) (N := N_are_blocks) (sc := defScope s_are_blocks) (by decide +kernel)) (fun _ _ _ _ _ => by exact pg_name (i := 2) sc_are_blocks.nd rfl (Or.inl rfl)) (fun _ _ _ _ _ => by exact pts_nil) (fun _ _ _ _ _ => by exact (pe_call G_is_block (hr.mono (by decide)) rfl T.g_is_block T.F_is_block.kp T.b_is_block .nil pass0 (pa_cons (pv 2) pa_nil)))) pa_nil))))), ?_⟩
  obtain ⟨x, d, lo, rfl, hx, hs, k⟩ := h
  by_cases ht : d.isTup = true
  · obtain ⟨a, xs, ds, rfl, rfl, hq, hrp⟩ := hx.isT ht
    have hl := hrp.len
    have hz := sizeL_len ds
    simp only [K0.D.size] at hs
    refine q_when (b := !(decide (lo ≤ (ds.length : Int)) && decide ((ds.length : Int) ≤ 200))) (et_is (et_or (et_is (et_not (et_B (ev_cb (ea_cons (ev_var rfl) (ea_cons ev_c ea_nil)) (rc_tup hx)))) (b := false) rfl) fun _ => et_not (by
      have z := et_chain_le (i := lo) (j := (xs.length : Nat)) (k := 200) (ta := tVar 1) (tb := tCB (fun xs H Q => ∃ x n, xs = [x] ∧ LenV K x H n ∧ Q (.int n) H) (tCons (tVar 0) tNil)) (tc := tC (.int 200)) (σ := start N_are_blocks [V.ref a, V.int lo]) (H := H) (ev_var rfl) (ev_cb (ea_cons (ev_var rfl) ea_nil) (rc_lenT hq)) ev_c
      rw [hl] at z
      exact z)) (Bool.false_or _)) (fun hb H1 e1 => ?_) (fun hb H1 e1 => ?_)
    · refine s_ret ev_c fun H2 e2 => ?_
      have z := k H2 (e1.trans e2)
      have c : (decide (lo ≤ (ds.length : Int)) && decide ((ds.length : Int) ≤ 200)) = false := by
        cases q : (decide (lo ≤ (ds.length : Int)) && decide ((ds.length : Int) ≤ 200)) <;> rw [q] at hb <;> first | rfl | cases hb
      have hf : (K0.D.tup ds).blocks lo = false := by
        show ((decide (lo ≤ (ds.length : Int)) && decide ((ds.length : Int) ≤ 200)) && ds.all K0.D.block) = false
        rw [c]
        rfl
      rw [hf] at z
      exact z
    · have c : (decide (lo ≤ (ds.length : Int)) && decide ((ds.length : Int) ≤ 200)) = true := by
        cases q : (decide (lo ≤ (ds.length : Int)) && decide ((ds.length : Int) ≤ 200)) <;> rw [q] at hb <;> first | rfl | cases hb
      refine s_ret (ev_is (ev_all (bs := (List.range xs.length).map fun i => (ds.getD i .non).block) ?_) ?_) fun H2 e2 => k H2 (e1.trans e2)
      · rw [List.map_map, ← given_map (f := fun _ => true) (fun _ => rfl)]
        refine el_lcT (fun _ => true) _ (ev_var rfl) (ex_t e1 hq) (by omega) (fun _ => rfl) (fun i y H3 e3 hy => et_yes) (fun i y H3 e3 hy _ => ?_)
        obtain ⟨d, hd, hrp'⟩ := RpAll.get _ _ _ _ (hrp.ex (e1.trans e3)) hy
        have hsz := size_mem (List.mem_of_getElem? hd)
        refine ev_is (ev_call (ea_cons (ev_var rfl) ea_nil) (svS (f := K0.D.block) hrp' (by omega))) ?_
        show V.bl d.block = V.bl ((ds.getD i .non).block)
        rw [List.getD_eq_getElem?_getD, hd]
        rfl
      · rw [List.all_map, hl]
        show V.bl (((List.range ds.length).all fun i => (ds.getD i .non).block)) = V.bl ((decide (lo ≤ (ds.length : Int)) && decide ((ds.length : Int) ≤ 200)) && ds.all K0.D.block)
        rw [c, all_getD]
        rfl
  · have hf : d.blocks lo = false := by cases d <;> first | rfl | exact absurd rfl ht
    rw [hf] at k
    have ht' : d.isTup = false := by cases q : d.isTup <;> first | rfl | exact absurd q ht
    refine q_when (b := true) (et_is (et_or (a := true) (b := true) (et_is (et_not (et_B (ev_cb (ea_cons (ev_var rfl) (ea_cons ev_c ea_nil)) (rc_tup hx)))) (by rw [ht']; rfl)) fun z => by cases z) rfl) (fun _ H1 e1 => ?_) (fun z => by cases z)
    exact s_ret ev_c fun H2 e2 => k H2 (e1.trans e2)
theorem sure_ok {S : List K0.D} (h1 : 1 ≤ S.length) (h2 : S.length ≤ 200) (h : ∀ d ∈ S, d ∈ menu) : (K0.D.tup S).blocks 1 = true ∧ (K0.D.tup S).size ≤ 30000 := by
  constructor
  · show (decide ((1 : Int) ≤ (S.length : Int)) && decide ((S.length : Int) ≤ 200) && S.all K0.D.block) = true
    rw [decide_eq_true (by omega), decide_eq_true (by omega), List.all_eq_true.mpr fun d hd => blk_block (h d hd)]
    rfl
  · have := size_le S fun d hd => blk_size (h d hd)
    simp only [K0.D.size]
    omega
def sp_Disk_init (K : PySem.W.Frag) (A : Ad) : Sp := fun vs H Q _ => ∃ p dx y S, vs = [.ref p, y] ∧ H p = some (.ins A.Disk dx []) ∧ Rp K H y (.tup S) ∧ 1 ≤ S.length ∧ S.length ≤ 200 ∧ (∀ d ∈ S, d ∈ menu) ∧
  ∀ u H', (∀ c o, H c = some o → c ≠ p → H' c = some o) → H' p = some (.ins A.Disk dx [("_sure", y), ("_waiting", .ref u)]) → SqT K H' u [] → Q .non H'
theorem len_Disk_init {vs : List V} {H : Hp} {Q : VK} {E : XK} (h : sp_Disk_init K A vs H Q E) : vs.length = 2 := by
  obtain ⟨p, dx, y, S, rfl, _⟩ := h
  rfl
theorem ok_Disk_init (T : Txt K mg A D) : FnOk P w K mg base CX0 7 A.Disk_init D.Disk_init ["self", "blocks"] (sp_Disk_init K A) := by
  have G_are_blocks : FnOk P w K mg base CX0 6 A.are_blocks D.are_blocks ["value", "least"] (sp_are_blocks K) := ok_are_blocks T
  refine T.F_Disk_init.ok sc_Disk_init (fun vs H Q E h => len_Disk_init h) (fun cdv A0 outer s H vs Q E hr h => ?_)
  refine ⟨_, (pss_cons (ps_if (pt_not (pt_val (pe_call G_are_blocks (hr.mono (by decide)) rfl T.g_are_blocks T.F_are_blocks.kp T.b_are_blocks .nil pass0 (pa_cons (pv 1) (pa_cons pe_int pa_nil))))) (pss_one ps_never) pss_nil)
  (pss_cons (ps_fld (pv 0) (pv 1) rfl)
  (pss_one (ps_fld (pv 0) (pe_tup pa_nil) rfl)))), ?_⟩
  obtain ⟨p, dx, y, S, rfl, hp, hy, l1, l2, hb, k⟩ := h
  obtain ⟨o1, o2⟩ := sure_ok l1 l2 hb
  refine q_when (b := false) (et_is (et_not (et_B (ev_call (ea_cons (ev_var rfl) (ea_cons ev_c ea_nil)) (sv_blocks hy o2)))) (by rw [o1]; rfl)) (fun z => by cases z) fun _ H1 e1 => ?_
  refine q_fld (ev_var rfl) (ev_var rfl) (e1 _ _ hp) T.cl_Disk T.no_Disk_sure (by decide) fun H2 e2 => ?_
  refine s_fldU (eu_tup ea_nil (by simp)) (ev_var rfl) upd_same T.cl_Disk T.no_Disk_waiting (by show 1 < 1000; decide) fun u H3 hu e3 h3 => ?_
  have npu : u ≠ p := fun z => by
    rw [z, upd_same] at hu
    cases hu
  refine k u _ (fun c o hc ne => ?_) ?_ ?_
  · rw [upd_ne ne]
    refine e3 _ _ ?_
    rw [upd_ne ne]
    exact e2 _ _ (e1 _ _ hc)
  · rw [upd_same, flds_new]
  · refine st_of ?_
    rw [upd_ne npu]
    exact h3
def sp_made (K : PySem.W.Frag) (A : Ad) : Sp := fun vs H Q _ => ∃ x y S W, vs = [x, y] ∧ Rp K H x (.tup S) ∧ Rp K H y (.tup (W.map prD)) ∧ DOk S W ∧ RetDisk K A.Disk S W H Q
theorem len_made {vs : List V} {H : Hp} {Q : VK} {E : XK} (h : sp_made K A vs H Q E) : vs.length = 2 := by
  obtain ⟨x, y, S, W, rfl, _⟩ := h
  rfl
theorem ok_made (T : Txt K mg A D) : FnOk P w K mg base CX0 11 A.made D.made ["sure", "waiting"] (sp_made K A) := by
  have G_Disk_init : FnOk P w K mg base CX0 7 A.Disk_init D.Disk_init ["self", "blocks"] (sp_Disk_init K A) := ok_Disk_init T
  refine T.F_made.ok sc_made (fun vs H Q E h => len_made h) (fun cdv A0 outer s H vs Q E hr h => ?_)
  refine ⟨_, (pss_cons (ps_set (i := 2) sc_made.nd rfl (Or.inl rfl) (pe_make T.mk_Disk G_Disk_init (hr.mono (by decide)) (by rfl) T.g_Disk T.b_Disk_init .nil pass0 (pa_cons (pe_tup (pa_cons pe_non pa_nil)) pa_nil)))
  (pss_cons (ps_fld (pv 2) (pv 0) rfl)
  (pss_cons (ps_fld (pv 2) (pv 1) rfl)
  (pss_one (ps_ret (pv 2)))))), ?_⟩
  obtain ⟨x, y, S, W, rfl, hx, hy, ok, k⟩ := h
  obtain ⟨a, xs, rfl, _⟩ := hx.tupI
  obtain ⟨b, ys, rfl, _⟩ := hy.tupI
  refine q_asgMk (eu_tup (ea_cons ev_c ea_nil) (by simp)) fun p H1 hp e1 h1 q dx hq hdx hne => ?_
  have e2 : Ex H1 (upd (upd H1 dx (.own q)) q (.ins A.Disk dx [])) := fun c o hc => by
    rw [upd_ne (ne_of_none hc hq), upd_ne (ne_of_none hc hdx)]
    exact hc
  refine ⟨q, dx, .ref p, [.non], rfl, upd_same, (Rp.tup (st_of h1) (.cons .non .nil)).ex e2, by decide, by decide, fun d hd => by rw [List.mem_singleton.mp hd]; exact List.mem_cons_self .., fun u H2 k2 hq2 hu => ⟨rfl, ?_⟩⟩
  have e3 : Ex H1 H2 := fun c o hc => k2 c o (e2 c o hc) (ne_of_none hc hq)
  refine q_fld (ev_var rfl) (ev_var rfl) hq2 T.cl_Disk T.no_Disk_sure (by show 2 < 1000; decide) fun H3 e4 => ?_
  refine q_fld (ev_var rfl) (ev_var rfl) upd_same T.cl_Disk T.no_Disk_waiting (by rw [flds_s]; show 2 < 1000; decide) fun H4 e5 => ?_
  have e6 : Ex H1 (upd H3 q (.ins A.Disk dx (putF "_sure" (V.ref a) [("_sure", V.ref p), ("_waiting", V.ref u)]))) := (e3.trans e4).mut hq
  have e7 := (e6.trans e5).mut (o := .ins A.Disk dx (putF "_waiting" (V.ref b) (putF "_sure" (V.ref a) [("_sure", V.ref p), ("_waiting", V.ref u)]))) hq
  refine s_ret (ev_var rfl) fun H5 e8 => ?_
  have e9 : Ex H H5 := (e1.trans e7).trans e8
  refine k q H5 e9 ⟨⟨dx, a, b, e8 _ _ ?_, hx.ex e9, hy.ex e9⟩, ok⟩
  rw [upd_same, flds_s, flds_w]
def sp_behindT (K : PySem.W.Frag) : Sp := fun vs H Q _ => ∃ x y S W, vs = [x, y] ∧ Rp K H x (.tup S) ∧ Rp K H y (.tup (W.map prD)) ∧ (∀ p ∈ W, p.1 < S.length) ∧ S.length ≤ 1000 ∧ W.length ≤ 1000 ∧ RetR K (.tup (rd S W)) H Q
theorem len_behindT {vs : List V} {H : Hp} {Q : VK} {E : XK} (h : sp_behindT K vs H Q E) : vs.length = 2 := by
  obtain ⟨x, y, S, W, rfl, _⟩ := h
  rfl
theorem ok_behindT (T : Txt K mg A D) : FnOk P w K mg base CX0 1 A.behind D.behind ["sure", "puts"] (sp_behindT K) := by
  refine T.F_behind.ok sc_behind (fun vs H Q E h => len_behindT h) (fun cdv A0 outer s H vs Q E hr h => ?_)
  refine ⟨_, (pss_cons (ps_set (i := 2) sc_behind.nd rfl (Or.inl rfl) (pe_callTy call_list_of (by rfl) T.b_list (by decide +kernel) (pa_cons (pv 0) pa_nil)))
  (pss_cons (ps_for PassesOwn.never rfl (pi_tup (pv 1)) (pg_tup rfl (pgs_cons (pg_name (i := 3) sc_behind.nd rfl (Or.inl rfl)) (pgs_cons (pg_name (i := 4) sc_behind.nd rfl (Or.inl rfl)) pgs_nil))) (pss_one (ps_asg (pv 4) (pg_sub (pv 2) (pv 3) set_list))))
  (pss_one (ps_ret (pe_callTy call_tuple_of (by rfl) T.b_tuple (by decide +kernel) (pa_cons (pv 2) pa_nil)))))), ?_⟩
  obtain ⟨x, y, S, W, rfl, hx, hy, hb, l1, l2, k⟩ := h
  obtain ⟨a, xs, rfl, sa, ra⟩ := hx.tupI
  obtain ⟨b, ys, rfl, sb, rb⟩ := hy.tupI
  refine q_asgL (el_listT (ev_var rfl) sa) fun l H1 hl e1 h1 => ?_
  refine q_forT (ev_var rfl) (ex_t e1 sb) (fun i σ' H' => ∃ zs v3 v4, σ' = [some (.ref a), some (.ref b), some (.ref l), v3, v4] ∧ Ex H H' ∧ H' l = some (.lst zs) ∧ RpAll K H' zs (rd S (W.take i))) (fun H2 e2 => ?_) (fun i σ' H' _ ⟨_, _, _, _, e, _⟩ => ex_t e sb) (fun i z σ' H' hz p => ?_) (fun σ' H' p => ?_)
  · exact ⟨xs, none, none, rfl, e1.trans e2, e2 _ _ h1, ra.ex (e1.trans e2)⟩
  · obtain ⟨zs, v3, v4, rfl, e, hzs, rz⟩ := p
    obtain ⟨d, hd, hrp⟩ := RpAll.get _ _ _ _ (rb.ex e) hz
    rw [List.getElem?_map] at hd
    obtain ⟨q, hq, rfl⟩ : ∃ q, W[i]? = some q ∧ prD q = d := by
      cases g : W[i]? with
      | none => rw [g] at hd; cases hd
      | some q => rw [g] at hd; exact ⟨q, rfl, Option.some.inj hd⟩
    obtain ⟨t, v, rfl, ht, hv⟩ := hrp.pairI
    have hlen : zs.length = S.length := rz.len.trans (rd_len _ _)
    refine ⟨t, _, rfl, ht, rfl, _, _, rfl, _, _, rfl, rfl, ?_⟩
    refine s_setL (j := q.1) hzs (ev_var rfl) (ev_var rfl) (ev_var rfl) (by rw [hlen]; exact hb q (List.mem_of_getElem? hq)) fun H3 e3 => ?_
    have h3 := e3 _ _ hzs
    refine ⟨_, _, _, rfl, Ex.mut (e.trans e3) hl, upd_same, ?_⟩
    rw [rd_take hq]
    exact RpAll.setI _ ((rz.ex e3).exL (ExL.upd h3)) ((hv.ex e3).exL (ExL.upd h3))
  · obtain ⟨zs, v3, v4, rfl, e, hzs, rz⟩ := p
    have hn : ys.length = W.length := by rw [rb.len, List.length_map]
    rw [hn, List.take_length] at rz
    refine s_retU (eu_tupOf (ev_var rfl) (sq_of hzs)) fun p H2 hp e2 h2 => ?_
    exact k (.ref p) H2 (e.trans e2) (.tup (st_of h2) (rz.ex e2))
end
end K0

namespace K0
open PySem L2 Evl
section
variable {P : Program} {w : World} {K : PySem.W.Frag} {mg : Str → Option Value} {base : Heap} {A : Ad} {D : Fd}
def sp_behindL (K : PySem.W.Frag) : Sp := fun vs H Q _ => ∃ x b ys S W, vs = [x, .ref b] ∧ Rp K H x (.tup S) ∧ SqL K H b ys ∧ RpAll K H ys (W.map prD) ∧ (∀ p ∈ W, p.1 < S.length) ∧ S.length ≤ 1000 ∧ W.length ≤ 1000 ∧ RetR K (.tup (rd S W)) H Q
theorem len_behindL {vs : List V} {H : Hp} {Q : VK} {E : XK} (h : sp_behindL K vs H Q E) : vs.length = 2 := by
  obtain ⟨x, b, ys, S, W, rfl, _⟩ := h
  rfl
theorem ok_behindL (T : Txt K mg A D) : FnOk P w K mg base CX0 1 A.behind D.behind ["sure", "puts"] (sp_behindL K) := by
  refine T.F_behind.ok sc_behind (fun vs H Q E h => len_behindL h) (fun cdv A0 outer s H vs Q E hr h => ?_)
  refine ⟨_, (pss_cons (ps_set (i := 2) sc_behind.nd rfl (Or.inl rfl) (pe_callTy call_list_of (by rfl) T.b_list (by decide +kernel) (pa_cons (pv 0) pa_nil)))
  (pss_cons (ps_for PassesOwn.never rfl (pi_list (pv 1)) (pg_tup rfl (pgs_cons (pg_name (i := 3) sc_behind.nd rfl (Or.inl rfl)) (pgs_cons (pg_name (i := 4) sc_behind.nd rfl (Or.inl rfl)) pgs_nil))) (pss_one (ps_asg (pv 4) (pg_sub (pv 2) (pv 3) set_list))))
  (pss_one (ps_ret (pe_callTy call_tuple_of (by rfl) T.b_tuple (by decide +kernel) (pa_cons (pv 2) pa_nil)))))), ?_⟩
  obtain ⟨x, b, ys, S, W, rfl, hx, sb, rb, hb, l1, l2, k⟩ := h
  obtain ⟨a, xs, rfl, sa, ra⟩ := hx.tupI
  refine q_asgL (el_listT (ev_var rfl) sa) fun l H1 hl e1 h1 => ?_
  refine q_forL (ev_var rfl) (ex_l e1 sb) (fun i σ' H' => ∃ zs v3 v4, σ' = [some (.ref a), some (.ref b), some (.ref l), v3, v4] ∧ Ex H H' ∧ H' l = some (.lst zs) ∧ RpAll K H' zs (rd S (W.take i))) (fun H2 e2 => ?_) (fun i σ' H' _ ⟨_, _, _, _, e, _⟩ => ex_l e sb) (fun i z σ' H' hz p => ?_) (fun σ' H' p => ?_)
  · exact ⟨xs, none, none, rfl, e1.trans e2, e2 _ _ h1, ra.ex (e1.trans e2)⟩
  · obtain ⟨zs, v3, v4, rfl, e, hzs, rz⟩ := p
    obtain ⟨d, hd, hrp⟩ := RpAll.get _ _ _ _ (rb.ex e) hz
    rw [List.getElem?_map] at hd
    obtain ⟨q, hq, rfl⟩ : ∃ q, W[i]? = some q ∧ prD q = d := by
      cases g : W[i]? with
      | none => rw [g] at hd; cases hd
      | some q => rw [g] at hd; exact ⟨q, rfl, Option.some.inj hd⟩
    obtain ⟨t, v, rfl, ht, hv⟩ := hrp.pairI
    have hlen : zs.length = S.length := rz.len.trans (rd_len _ _)
    refine ⟨t, _, rfl, ht, rfl, _, _, rfl, _, _, rfl, rfl, ?_⟩
    refine s_setL (j := q.1) hzs (ev_var rfl) (ev_var rfl) (ev_var rfl) (by rw [hlen]; exact hb q (List.mem_of_getElem? hq)) fun H3 e3 => ?_
    have h3 := e3 _ _ hzs
    refine ⟨_, _, _, rfl, Ex.mut (e.trans e3) hl, upd_same, ?_⟩
    rw [rd_take hq]
    exact RpAll.setI _ ((rz.ex e3).exL (ExL.upd h3)) ((hv.ex e3).exL (ExL.upd h3))
  · obtain ⟨zs, v3, v4, rfl, e, hzs, rz⟩ := p
    have hn : ys.length = W.length := by rw [rb.len, List.length_map]
    rw [hn, List.take_length] at rz
    refine s_retU (eu_tupOf (ev_var rfl) (sq_of hzs)) fun p H2 hp e2 h2 => ?_
    exact k (.ref p) H2 (e.trans e2) (.tup (st_of h2) (rz.ex e2))
/-- either promise -/
theorem fn_or {CX : CXT} {k : Nat} {f : Addr} {fd : FuncData} {ps : List Str} {sp sq : Sp} (F : FnOk P w K mg base CX k f fd ps sp) (G : FnOk P w K mg base CX k f fd ps sq) : FnOk P w K mg base CX k f fd ps (fun vs H Q E => sp vs H Q E ∨ sq vs H Q E) :=
  ⟨fun vs H Q E h => h.elim (F.len vs H Q E) (G.len vs H Q E), fun A0 o s H ar us vs Q E hr e hb hv hs => hs.elim (F.run A0 o s H ar us vs Q E hr e hb hv) (G.run A0 o s H ar us vs Q E hr e hb hv)⟩
def sp_behind (K : PySem.W.Frag) (_ : Ad) : Sp := fun vs H Q E => sp_behindT K vs H Q E ∨ sp_behindL K vs H Q E
theorem ok_behind (T : Txt K mg A D) : FnOk P w K mg base CX0 1 A.behind D.behind ["sure", "puts"] (sp_behind K A) := fn_or (ok_behindT T) (ok_behindL T)
end
end K0

namespace K0
open PySem L2 Evl
/-! ### what evaluates to data -/
section
variable {K : PySem.W.Frag} {σ : L2.St} {H H' : Hp} {ta tb te : TE} {tr : TA} {x y z v : V} {d e : D} {ds es : List D}
def EvD (K : PySem.W.Frag) (te : TE) (σ : L2.St) (H : Hp) (d : D) : Prop := ∀ H1, Ex H H1 → ∀ Q : VK, (∀ v H2, Ex H1 H2 → Rp K H2 v d → Q v H2) → te σ H1 Q
def EvDA (K : PySem.W.Frag) (ta : TA) (σ : L2.St) (H : Hp) (ds : List D) : Prop := ∀ H1, Ex H H1 → ∀ Q : List V → Hp → Prop, (∀ vs H2, Ex H1 H2 → RpAll K H2 vs ds → Q vs H2) → ta σ H1 Q
theorem EvD.mono (a : Ex H H') (h : EvD K te σ H d) : EvD K te σ H' d := fun H1 e Q q => h H1 (a.trans e) Q q
theorem ed_ev (h : Ev te σ H v) (r : Rp K H v d) : EvD K te σ H d := fun H1 a Q q => h H1 a Q fun H2 b => q v H2 b (r.ex (a.trans b))
theorem ed_int {i : Int} : EvD K (tC (.int i)) σ H (.int i) := ed_ev ev_c (.int i)
theorem ed_non : EvD K (tC .non) σ H .non := ed_ev ev_c .non
theorem ed_str {s : Str} : EvD K (tC (.str s)) σ H (.str s) := ed_ev ev_c (.str s)
theorem eda_nil : EvDA K tNil σ H [] := fun H1 _ Q q => q [] H1 (Ex.refl _) .nil
theorem eda_cons (h : EvD K te σ H d) (r : EvDA K tr σ H ds) : EvDA K (tCons te tr) σ H (d :: ds) := fun H1 a Q q =>
  h H1 a _ fun v H2 b hv => r H2 (a.trans b) _ fun vs H3 c hs => q (v :: vs) H3 (b.trans c) (.cons (hv.ex c) hs)
theorem ed_tup (h : EvDA K tr σ H ds) (l : ds.length ≤ 100000) : EvD K (tTup tr) σ H (.tup ds) := fun H1 a Q q =>
  h H1 a _ fun vs H2 b hs => ⟨by rw [hs.len]; exact sz_of l, fun p hp => q (.ref p) _ (b.trans (Ex.new hp)) (.tup (st_of upd_same) (hs.ex (Ex.new hp)))⟩
theorem ed_cat (h1 : EvD K ta σ H (.tup ds)) (h2 : EvD K tb σ H (.tup es)) (l : ds.length + es.length ≤ 100000) : EvD K (tOp (rCatA K) ta tb) σ H (.tup (ds ++ es)) := fun H1 a Q q =>
  h1 H1 a _ fun v H2 b hv => h2 H2 (a.trans b) _ fun w H3 c hw => by
    obtain ⟨p, xs, rfl, sp, rp⟩ := (hv.ex c).tupI
    obtain ⟨r, ys, rfl, sr, rr⟩ := hw.tupI
    refine ⟨p, r, xs, ys, rfl, rfl, sp, sr, by rw [rp.len, rr.len]; exact sz_of l, fun h => ?_, fun _ h => ?_, fun _ _ n hn => ?_⟩
    · subst h
      cases rp
      exact q _ _ (b.trans c) (.tup sr rr)
    · subst h
      cases rr
      rw [List.append_nil] at q
      exact q _ _ (b.trans c) (.tup sp rp)
    · exact q _ _ ((b.trans c).trans (Ex.new hn)) (.tup (st_of upd_same) ((rp.app rr).ex (Ex.new hn)))
theorem ed_ix {i : Nat} (h : EvD K ta σ H (.tup ds)) (hb : ∀ H1, Ex H H1 → Ev tb σ H1 (.int (i : Int))) (hi : ds[i]? = some d) : EvD K (tOp (rIxT K) ta tb) σ H d := fun H1 a Q q =>
  h H1 a _ fun v H2 b hv => hb H2 (a.trans b) H2 (Ex.refl _) _ fun H3 c => by
    obtain ⟨p, xs, rfl, sp, rp⟩ := (hv.ex c).tupI
    have hlt : i < ds.length := by
      rcases Nat.lt_or_ge i ds.length with h | h
      · exact h
      · rw [List.getElem?_eq_none h] at hi
        cases hi
    have hxl : i < xs.length := by
      rw [rp.len]
      exact hlt
    have hx : xs[i]? = some xs[i] := List.getElem?_eq_getElem hxl
    obtain ⟨d', hd', hr'⟩ := RpAll.get _ _ _ _ rp hx
    rw [hi] at hd'
    cases hd'
    refine ⟨p, xs, (i : Int), xs[i], rfl, rfl, sp, ?_, q _ _ (b.trans c) hr'⟩
    unfold atI
    rw [ixN_nat (by rw [rp.len]; exact hlt)]
    exact hx
theorem d_call {sp : Sp} {E : XK} {Q : VK} (h : EvDA K tr σ H ds) (k : ∀ vs H1, Ex H H1 → RpAll K H1 vs ds → sp vs H1 Q E) : tCall sp [] E tr σ H Q := h H (Ex.refl H) _ fun vs H1 a r => by
  show sp (vs ++ []) H1 Q E
  rw [List.append_nil]
  exact k vs H1 a r
theorem d_ret {D : Ends} (h : EvD K te σ H d) (k : ∀ v H1, Ex H H1 → Rp K H1 v d → D.rt v H1) : tRet te D σ H := h H (Ex.refl H) _ k
/-- a method without arguments that gives data -/
theorem ed_meth0 {C a dx : Addr} {fs : List (Str × V)} {m : Str} {sp : Sp} {E : XK} (h : Ev ta σ H (.ref a)) (ha : H a = some (.ins C dx fs)) (l : fs.lookup m = none) (k : ∀ H1, Ex H H1 → ∀ Q : VK, RetR K d H1 Q → sp [.ref a] H1 Q E) :
    EvD K (tMeth C m sp [] E ta tNil) σ H d := fun H1 a1 Q q => h H1 a1 _ fun H2 b => ⟨a, dx, fs, rfl, (a1.trans b) _ _ ha, l, k H2 (a1.trans b) Q fun v H3 c hv => q v H3 (b.trans c) hv⟩
theorem ed_call {sp : Sp} {E : XK} (h : EvDA K tr σ H ds) (k : ∀ vs H1, Ex H H1 → RpAll K H1 vs ds → ∀ Q : VK, RetR K d H1 Q → sp vs H1 Q E) : EvD K (tCall sp [] E tr) σ H d := fun H1 a Q q => h H1 a _ fun vs H2 b r => by
  show sp (vs ++ []) H2 Q E
  rw [List.append_nil]
  exact k vs H2 (a.trans b) r Q fun v H3 c hv => q v H3 (b.trans c) hv
theorem rv_eqD (hx : Rp K H x d) (hy : Rp K H y e) {n : Nat} (fd : d.fine n = true) (fe : e.fine n = true) (hn : n ≤ 64) : RV (rEqD K) x y H (.bl (PyData.eqv d.py e.py)) := fun H1 a Q q =>
  ⟨d.py, e.py, (hx.ex a).dp (fine_c fd), (hy.ex a).dp (fine_c fe), shaped_of fd hn, shaped_of fe hn, q H1 (Ex.refl _)⟩
theorem rv_neD (hx : Rp K H x d) (hy : Rp K H y e) {n : Nat} (fd : d.fine n = true) (fe : e.fine n = true) (hn : n ≤ 64) : RV (rNeD K) x y H (.bl (!PyData.eqv d.py e.py)) := fun H1 a Q q =>
  ⟨d.py, e.py, (hx.ex a).dp (fine_c fd), (hy.ex a).dp (fine_c fe), shaped_of fd hn, shaped_of fe hn, q H1 (Ex.refl _)⟩
/-- compared as data -/
theorem ev_neD (h1 : EvD K ta σ H d) (h2 : EvD K tb σ H e) {n : Nat} (fd : d.fine n = true) (fe : e.fine n = true) (hn : n ≤ 64) : Ev (tOp (rNeD K) ta tb) σ H (.bl (!PyData.eqv d.py e.py)) := fun H1 a Q q =>
  h1 H1 a _ fun v H2 b hv => h2 H2 (a.trans b) _ fun w H3 c hw => rv_neD (hv.ex c) hw fd fe hn H3 (Ex.refl _) Q fun H4 g => q H4 ((b.trans c).trans g)
theorem ev_eqD (h1 : EvD K ta σ H d) (h2 : EvD K tb σ H e) {n : Nat} (fd : d.fine n = true) (fe : e.fine n = true) (hn : n ≤ 64) : Ev (tOp (rEqD K) ta tb) σ H (.bl (PyData.eqv d.py e.py)) := fun H1 a Q q =>
  h1 H1 a _ fun v H2 b hv => h2 H2 (a.trans b) _ fun w H3 c hw => rv_eqD (hv.ex c) hw fd fe hn H3 (Ex.refl _) Q fun H4 g => q H4 ((b.trans c).trans g)
theorem Rp.tupR {a : Addr} (h : Rp K H (.ref a) (.tup ds)) : ∃ xs, SqT K H a xs ∧ RpAll K H xs ds := by
  cases h with
  | tup h r => exact ⟨_, h, r⟩
/-! ### f-strings -/
def EvJ (ts : List TE) (acc : Str) (σ : L2.St) (H : Hp) (out : Str) : Prop := ∀ H1, Ex H H1 → ∀ Q : Str → Hp → Prop, (∀ H2, Ex H1 H2 → Q out H2) → tJs ts acc σ H1 Q
theorem ej_nil {acc : Str} : EvJ [] acc σ H acc := fun H1 _ Q q => q H1 (Ex.refl _)
theorem ej_cons {t : TE} {ts : List TE} {acc s out : Str} (h : Ev t σ H (.str s)) (l : (acc ++ s).length ≤ 100000) (r : EvJ ts (acc ++ s) σ H out) : EvJ (t :: ts) acc σ H out := fun H1 a Q q =>
  h H1 a _ fun H2 b => ⟨s, rfl, sz_of l, r H2 (a.trans b) Q fun H3 c => q H3 (b.trans c)⟩
theorem ev_js {ts : List TE} {out : Str} (h : EvJ ts Str.empty σ H out) : Ev (fun σ H Q => tJs ts Str.empty σ H fun out H1 => Q (.str out) H1) σ H (.str out) := fun H1 a Q q => h H1 a _ fun H2 b => q H2 b
theorem ev_fmt {i : Int} (h : Ev te σ H (.int i)) (l : i.natAbs.log2 < 1920) : Ev (tFmt te) σ H (.str (toString i)) := fun H1 a Q q => h H1 a _ fun H2 b => .inr ⟨i, rfl, l, q H2 b⟩
end
/-- the text of a small number -/
def tos (n : Nat) : Str := toString (n : Int)
theorem tos_len {n : Nat} (h : n ≤ 400) : (tos n).length ≤ 8 := by
  have z : ∀ i : Fin 401, (tos i.val).length ≤ 8 := by decide +kernel
  exact z ⟨n, by omega⟩
theorem log_small {n : Nat} (h : n ≤ 400) : (n : Int).natAbs.log2 < 1920 := by
  have z : ∀ i : Fin 401, (i.val : Int).natAbs.log2 < 1920 := by decide +kernel
  exact z ⟨n, by omega⟩
theorem app_len (a b : Str) : (a ++ b).length = a.length + b.length := by
  show (a.cps ++ b.cps).size = _
  rw [Array.size_append]
  rfl
def strD (n m : Nat) : Str := ((((("disk of " : Str) ++ tos n) ++ (" blocks, " : Str)) ++ tos m) ++ (" waiting" : Str))
theorem numB_small {n : Nat} (h : n ≤ 1000) : numB (n : Int) = true := by
  unfold numB big
  rw [decide_eq_true (by omega), decide_eq_true (by omega)]
  rfl
theorem within_ok {n : Nat} {lo hi : Int} (h : n ≤ 1000) (h1 : lo ≤ (n : Int)) (h2 : (n : Int) ≤ hi) : (D.int (n : Int)).within lo hi = true := by
  show (numB (n : Int) && (decide (lo ≤ (n : Int)) && decide ((n : Int) ≤ hi))) = true
  rw [numB_small h, decide_eq_true h1, decide_eq_true h2]
  rfl
end K0

namespace K0
open PySem L2 Evl
section
variable {P : Program} {w : World} {K : PySem.W.Frag} {mg : Str → Option Value} {base : Heap} {A : Ad} {D : Fd}
/-- what a method without arguments promises -/
def spM (K : PySem.W.Frag) (A : Ad) (R : List K0.D → List (Nat × K0.D) → Hp → VK → Prop) : Sp := fun vs H Q _ => ∃ p S W, vs = [.ref p] ∧ DiskAt K A.Disk H p S W ∧ R S W H Q
theorem spM_len {R : List K0.D → List (Nat × K0.D) → Hp → VK → Prop} {vs : List V} {H : Hp} {Q : VK} {E : XK} (h : spM K A R vs H Q E) : vs.length = 1 := by
  obtain ⟨p, S, W, rfl, _⟩ := h
  rfl
abbrev sp_Disk_sure (K : PySem.W.Frag) (A : Ad) : Sp := spM K A fun S W => RetR K (.tup S)
theorem len_Disk_sure {vs : List V} {H : Hp} {Q : VK} {E : XK} (h : sp_Disk_sure K A vs H Q E) : vs.length = 1 := spM_len h
theorem ok_Disk_sure (T : Txt K mg A D) : FnOk P w K mg base CX0 1 A.Disk_sure D.Disk_sure ["self"] (sp_Disk_sure K A) := by
  refine T.F_Disk_sure.ok sc_Disk_sure (fun vs H Q E h => len_Disk_sure h) (fun cdv A0 outer s H vs Q E hr h => ?_)
  refine ⟨_, (pss_one (ps_ret (pe_fld (pv 0) (by rfl)))), ?_⟩
  obtain ⟨p, S, W, rfl, ⟨⟨dx, a, b, hp, ha, hb⟩, ok⟩, k⟩ := h
  refine s_ret (ev_fld (ev_var rfl) hp T.cl_Disk T.no_Disk_sure (look_s _ _)) fun H1 e1 => k _ H1 e1 (ha.ex e1)
abbrev sp_Disk_waiting (K : PySem.W.Frag) (A : Ad) : Sp := spM K A fun S W => RetR K (.tup (W.map prD))
theorem len_Disk_waiting {vs : List V} {H : Hp} {Q : VK} {E : XK} (h : sp_Disk_waiting K A vs H Q E) : vs.length = 1 := spM_len h
theorem ok_Disk_waiting (T : Txt K mg A D) : FnOk P w K mg base CX0 1 A.Disk_waiting D.Disk_waiting ["self"] (sp_Disk_waiting K A) := by
  refine T.F_Disk_waiting.ok sc_Disk_waiting (fun vs H Q E h => len_Disk_waiting h) (fun cdv A0 outer s H vs Q E hr h => ?_)
  refine ⟨_, (pss_one (ps_ret (pe_fld (pv 0) (by rfl)))), ?_⟩
  obtain ⟨p, S, W, rfl, ⟨⟨dx, a, b, hp, ha, hb⟩, ok⟩, k⟩ := h
  refine s_ret (ev_fld (ev_var rfl) hp T.cl_Disk T.no_Disk_waiting (look_w _ _)) fun H1 e1 => k _ H1 e1 (hb.ex e1)
abbrev sp_Disk_blocks (K : PySem.W.Frag) (A : Ad) : Sp := spM K A fun S W => RetR K (.tup (rd S W))
theorem len_Disk_blocks {vs : List V} {H : Hp} {Q : VK} {E : XK} (h : sp_Disk_blocks K A vs H Q E) : vs.length = 1 := spM_len h
theorem ok_Disk_blocks (T : Txt K mg A D) : FnOk P w K mg base CX0 2 A.Disk_blocks D.Disk_blocks ["self"] (sp_Disk_blocks K A) := by
  have G_behind : FnOk P w K mg base CX0 1 A.behind D.behind ["sure", "puts"] (sp_behind K A) := ok_behind T
  refine T.F_Disk_blocks.ok sc_Disk_blocks (fun vs H Q E h => len_Disk_blocks h) (fun cdv A0 outer s H vs Q E hr h => ?_)
  refine ⟨_, (pss_one (ps_ret (pe_call G_behind (hr.mono (by decide)) rfl T.g_behind T.F_behind.kp T.b_behind .nil pass0 (pa_cons (pe_fld (pv 0) (by rfl)) (pa_cons (pe_fld (pv 0) (by rfl)) pa_nil))))), ?_⟩
  obtain ⟨p, S, W, rfl, ⟨⟨dx, a, b, hp, ha, hb⟩, ok⟩, k⟩ := h
  refine s_retC (ea_cons (ev_fld (ev_var rfl) hp T.cl_Disk T.no_Disk_sure (look_s _ _)) (ea_cons (ev_fld (ev_var rfl) hp T.cl_Disk T.no_Disk_waiting (look_w _ _)) ea_nil)) fun H1 e1 => ?_
  exact .inl ⟨_, _, S, W, rfl, ha.ex e1, hb.ex e1, fun q hq => (ok.bw q hq).1, by have := ok.hi; omega, by have := ok.wl; omega, fun v H2 e2 hv => k v H2 (e1.trans e2) hv⟩
abbrev sp_Disk_len (K : PySem.W.Frag) (A : Ad) : Sp := spM K A fun S W => RetV (.int (S.length : Int))
theorem len_Disk_len {vs : List V} {H : Hp} {Q : VK} {E : XK} (h : sp_Disk_len K A vs H Q E) : vs.length = 1 := spM_len h
theorem ok_Disk_len (T : Txt K mg A D) : FnOk P w K mg base CX0 1 A.Disk_len D.Disk_len ["self"] (sp_Disk_len K A) := by
  refine T.F_Disk_len.ok sc_Disk_len (fun vs H Q E h => len_Disk_len h) (fun cdv A0 outer s H vs Q E hr h => ?_)
  refine ⟨_, (pss_one (ps_ret (pe_callB call_len (by rfl) T.b_len (by decide +kernel) (pa_cons (pe_fld (pv 0) (by rfl)) pa_nil)))), ?_⟩
  obtain ⟨p, S, W, rfl, ⟨⟨dx, a, b, hp, ha, hb⟩, ok⟩, k⟩ := h
  obtain ⟨xs, sa, ra⟩ := ha.tupR
  refine s_ret (ev_is (ev_cb (ea_cons (ev_fld (ev_var rfl) hp T.cl_Disk T.no_Disk_sure (look_s _ _)) ea_nil) (rc_lenT sa)) (by rw [ra.len])) fun H1 e1 => k H1 e1
abbrev sp_Disk_synced (K : PySem.W.Frag) (A : Ad) : Sp := spM K A fun S W => RetDisk K A.Disk (rd S W) []
theorem len_Disk_synced {vs : List V} {H : Hp} {Q : VK} {E : XK} (h : sp_Disk_synced K A vs H Q E) : vs.length = 1 := spM_len h
theorem ok_Disk_synced (T : Txt K mg A D) : FnOk P w K mg base CX0 12 A.Disk_synced D.Disk_synced ["self"] (sp_Disk_synced K A) := by
  have G_made : FnOk P w K mg base CX0 11 A.made D.made ["sure", "waiting"] (sp_made K A) := ok_made T
  have G_Disk_blocks : FnOk P w K mg base CX0 2 A.Disk_blocks D.Disk_blocks ["self"] (sp_Disk_blocks K A) := ok_Disk_blocks T
  refine T.F_Disk_synced.ok sc_Disk_synced (fun vs H Q E h => len_Disk_synced h) (fun cdv A0 outer s H vs Q E hr h => ?_)
  refine ⟨_, (pss_one (ps_ret (pe_call G_made (hr.mono (by decide)) rfl T.g_made T.F_made.kp T.b_made .nil pass0 (pa_cons (pe_meth0 (pv 0) T.cl_Disk T.m_Disk_blocks G_Disk_blocks (hr.mono (by decide)) T.b_Disk_blocks .nil pass0 ) (pa_cons (pe_tup pa_nil) pa_nil))))), ?_⟩
  obtain ⟨p, S, W, rfl, hd, k⟩ := h
  obtain ⟨⟨dx, a, b, hp, ha, hb⟩, ok⟩ := id hd
  refine n_ret (d_call (eda_cons (ed_meth0 (d := .tup (rd S W)) (ev_var rfl) hp (look_no _ _ (by decide +kernel) (by decide +kernel)) fun H1 e1 Q k1 => ⟨p, S, W, rfl, hd.ex e1, k1⟩) (eda_cons (ed_tup eda_nil (by simp)) eda_nil)) fun vs H1 e1 r => ?_)
  cases r with
  | cons r1 r =>
    cases r with
    | cons r2 r =>
      cases r
      exact ⟨_, _, rd S W, [], rfl, r1, r2, ok.sync, fun q H2 e2 hq => k q H2 (e1.trans e2) hq⟩
def sp_Disk_read (K : PySem.W.Frag) (A : Ad) : Sp := fun vs H Q _ => ∃ p S W, ∃ n : Nat, ∃ d, vs = [.ref p, .int (n : Int)] ∧ DiskAt K A.Disk H p S W ∧ (rd S W)[n]? = some d ∧ RetR K d H Q
theorem len_Disk_read {vs : List V} {H : Hp} {Q : VK} {E : XK} (h : sp_Disk_read K A vs H Q E) : vs.length = 2 := by
  obtain ⟨p, S, W, n, d, rfl, _⟩ := h
  rfl
theorem get_lt {α : Type} {l : List α} {i : Nat} {x : α} (h : l[i]? = some x) : i < l.length := by
  rcases Nat.lt_or_ge i l.length with g | g
  · exact g
  · rw [List.getElem?_eq_none g] at h
    cases h
theorem ok_Disk_read (T : Txt K mg A D) : FnOk P w K mg base CX0 6 A.Disk_read D.Disk_read ["self", "place"] (sp_Disk_read K A) := by
  have G_check_number : FnOk P w K mg base CX0 3 A.check_number D.check_number ["given", "least", "most"] (sp_check_number K) := ok_check_number T
  have G_Disk_blocks : FnOk P w K mg base CX0 2 A.Disk_blocks D.Disk_blocks ["self"] (sp_Disk_blocks K A) := ok_Disk_blocks T
  refine T.F_Disk_read.ok sc_Disk_read (fun vs H Q E h => len_Disk_read h) (fun cdv A0 outer s H vs Q E hr h => ?_)
  refine ⟨_, (pss_cons (ps_expr (pe_call G_check_number (hr.mono (by decide)) rfl T.g_check_number T.F_check_number.kp T.b_check_number .nil pass0 (pa_cons (pv 1) (pa_cons pe_int (pa_cons (pe_op op_sub (pe_callB call_len (by rfl) T.b_len (by decide +kernel) (pa_cons (pe_fld (pv 0) (by rfl)) pa_nil)) pe_int) pa_nil)))))
  (pss_one (ps_ret (pe_ix ix_tup (pe_meth0 (pv 0) T.cl_Disk T.m_Disk_blocks G_Disk_blocks (hr.mono (by decide)) T.b_Disk_blocks .nil pass0 ) (pv 1) (fun _ _ => rfl))))), ?_⟩
  obtain ⟨p, S, W, n, d, rfl, hd, hn, k⟩ := h
  obtain ⟨⟨dx, a, b, hp, ha, hb⟩, ok⟩ := id hd
  obtain ⟨xs, sa, ra⟩ := ha.tupR
  have hlt := get_lt hn
  rw [rd_len] at hlt
  have hhi := ok.hi
  refine q_drop (ev_call (ea_cons (ev_var rfl) (ea_cons ev_c (ea_cons (ev_op (ev_cb (ea_cons (ev_fld (ev_var rfl) hp T.cl_Disk T.no_Disk_sure (look_s _ _)) ea_nil) (rc_lenT sa)) ev_c rv_I0) ea_nil))) (sv_check (within_ok (by omega) (by omega) (by rw [ra.len]; omega)))) fun H1 e1 => ?_
  refine d_ret (ed_ix (i := n) (ed_meth0 (d := .tup (rd S W)) (ev_var rfl) (e1 _ _ hp) (look_no _ _ (by decide +kernel) (by decide +kernel)) fun H2 e2 Q k1 => ⟨p, S, W, rfl, hd.ex (e1.trans e2), k1⟩) (fun _ _ => ev_var rfl) hn) fun v H2 e2 hv => k v H2 (e1.trans e2) hv
def sp_Disk_put (K : PySem.W.Frag) (A : Ad) : Sp := fun vs H Q _ => ∃ p S W, ∃ n : Nat, ∃ x d, vs = [.ref p, .int (n : Int), x] ∧ DiskAt K A.Disk H p S W ∧ n < S.length ∧ W.length < 400 ∧ d ∈ menu ∧ Rp K H x d ∧ RetDisk K A.Disk S (W ++ [(n, d)]) H Q
theorem len_Disk_put {vs : List V} {H : Hp} {Q : VK} {E : XK} (h : sp_Disk_put K A vs H Q E) : vs.length = 3 := by
  obtain ⟨p, S, W, n, x, d, rfl, _⟩ := h
  rfl
theorem ok_Disk_put (T : Txt K mg A D) : FnOk P w K mg base CX0 12 A.Disk_put D.Disk_put ["self", "place", "block"] (sp_Disk_put K A) := by
  have G_check_number : FnOk P w K mg base CX0 3 A.check_number D.check_number ["given", "least", "most"] (sp_check_number K) := ok_check_number T
  have G_is_block : FnOk P w K mg base CX0 5 A.is_block D.is_block ["value"] (sp_is_block K) := ok_is_block T
  have G_made : FnOk P w K mg base CX0 11 A.made D.made ["sure", "waiting"] (sp_made K A) := ok_made T
  obtain ⟨t_MAX_WAITING, c_MAX_WAITING⟩ := T.c_MAX_WAITING
  refine T.F_Disk_put.ok sc_Disk_put (fun vs H Q E h => len_Disk_put h) (fun cdv A0 outer s H vs Q E hr h => ?_)
  refine ⟨_, (pss_cons (ps_expr (pe_call G_check_number (hr.mono (by decide)) rfl T.g_check_number T.F_check_number.kp T.b_check_number .nil pass0 (pa_cons (pv 1) (pa_cons pe_int (pa_cons (pe_op op_sub (pe_callB call_len (by rfl) T.b_len (by decide +kernel) (pa_cons (pe_fld (pv 0) (by rfl)) pa_nil)) pe_int) pa_nil)))))
  (pss_cons (ps_if (pt_not (pt_val (pe_call G_is_block (hr.mono (by decide)) rfl T.g_is_block T.F_is_block.kp T.b_is_block .nil pass0 (pa_cons (pv 2) pa_nil)))) (pss_one ps_never) pss_nil)
  (pss_cons (ps_if (pt_cmpR op_ge (pe_callB call_len (by rfl) T.b_len (by decide +kernel) (pa_cons (pe_fld (pv 0) (by rfl)) pa_nil)) (pe_glob (v := .int (400)) rfl c_MAX_WAITING ⟨_, rfl⟩) (nomark _)) (pss_one ps_never) pss_nil)
  (pss_one (ps_ret (pe_call G_made (hr.mono (by decide)) rfl T.g_made T.F_made.kp T.b_made .nil pass0 (pa_cons (pe_fld (pv 0) (by rfl)) (pa_cons (pe_op op_catA (pe_fld (pv 0) (by rfl)) (pe_tup (pa_cons (pe_tup (pa_cons (pv 1) (pa_cons (pv 2) pa_nil))) pa_nil))) pa_nil)))))))), ?_⟩
  obtain ⟨p, S, W, n, x, d, rfl, ⟨⟨dx, a, b, hp, ha, hb⟩, ok⟩, hn, hw, hm, hx, k⟩ := h
  obtain ⟨xs, sa, ra⟩ := ha.tupR
  obtain ⟨ys, sb, rb⟩ := hb.tupR
  have hhi := ok.hi
  have hbl := blk_block hm
  have hsz := blk_size hm
  have hyl : ys.length = W.length := by rw [rb.len, List.length_map]
  refine q_drop (ev_call (ea_cons (ev_var rfl) (ea_cons ev_c (ea_cons (ev_op (ev_cb (ea_cons (ev_fld (ev_var rfl) hp T.cl_Disk T.no_Disk_sure (look_s _ _)) ea_nil) (rc_lenT sa)) ev_c rv_I0) ea_nil))) (sv_check (within_ok (by omega) (by omega) (by rw [ra.len]; omega)))) fun H1 e1 => ?_
  refine q_when (b := false) (et_is (et_not (et_B (ev_call (ea_cons (ev_var rfl) ea_nil) (svS (f := K0.D.block) (hx.ex e1) (by omega))))) (by rw [hbl]; rfl)) (fun z => by cases z) fun _ H2 e2 => ?_
  have e02 := e1.trans e2
  refine q_when (b := false) (et_is (et_test (ev_op (ev_cb (ea_cons (ev_fld (ev_var rfl) (e02 _ _ hp) T.cl_Disk T.no_Disk_waiting (look_w _ _)) ea_nil) (rc_lenT (ex_t e02 sb))) ev_c rv_I0)) (by rw [hyl]; exact decide_eq_false (by omega))) (fun z => by cases z) fun _ H3 e3 => ?_
  have e03 := e02.trans e3
  refine n_ret (d_call (eda_cons (ed_ev (ev_fld (ev_var rfl) (e03 _ _ hp) T.cl_Disk T.no_Disk_sure (look_s _ _)) (ha.ex e03)) (eda_cons (ed_cat (ed_ev (ev_fld (ev_var rfl) (e03 _ _ hp) T.cl_Disk T.no_Disk_waiting (look_w _ _)) (hb.ex e03))
    (ed_tup (eda_cons (ed_tup (eda_cons (ed_ev (ev_var rfl) (.int _)) (eda_cons (ed_ev (ev_var rfl) (hx.ex e03)) eda_nil)) (by simp)) eda_nil) (by simp)) (by rw [List.length_map]; simp; omega)) eda_nil)) fun vs H4 e4 r => ?_)
  cases r with
  | cons r1 r =>
    cases r with
    | cons r2 r =>
      cases r
      refine ⟨_, _, S, W ++ [(n, d)], rfl, r1, ?_, ⟨ok.lo, ok.hi, by rw [List.length_append]; simp; omega, ok.bs, fun q hq => ?_⟩, fun q H5 e5 hq => k q H5 ((e03.trans e4).trans e5) hq⟩
      · rw [List.map_append]
        exact r2
      · rcases List.mem_append.mp hq with hq | hq
        · exact ok.bw q hq
        · rw [List.mem_singleton.mp hq]
          exact ⟨hn, hm⟩
end
end K0

namespace K0
open PySem L2 Evl
theorem ix_tupK {X : Cx} {K : PySem.W.Frag} (h : X.K = K) : IxR X (rIxT K) := h ▸ ix_tup
theorem pe_fldK {X : Cx} {K : PySem.W.Frag} {e : Expr} {f : Str} {pos : Pos} {ta : TE} (he : PE X e ta) (hb : attributeBase e f X.env (eval e X.env) = eval e X.env) (h : X.K = K) : PE X (.Attribute e f pos) (tFld K ta f) := h ▸ pe_fld he hb
section
variable {P : Program} {w : World} {K : PySem.W.Frag} {mg : Str → Option Value} {base : Heap} {A : Ad} {D : Fd}
theorem d_raw {σ : L2.St} {H : Hp} {tr : TA} {sp : Sp} {E : XK} {Q : VK} (h : tr σ H fun vs H1 => sp vs H1 Q E) : tCall sp [] E tr σ H Q := by
  have e : (fun (vs : List V) H1 => sp (vs ++ []) H1 Q E) = fun vs H1 => sp vs H1 Q E := by
    funext vs H1
    rw [List.append_nil]
  show tr σ H fun vs H1 => sp (vs ++ []) H1 Q E
  rw [e]
  exact h
theorem gd_some {α : Type} {l : List α} {i : Nat} {x y : α} (h : l[i]? = some x) : l.getD i y = x := by
  rw [List.getD_eq_getElem?_getD, h]
  rfl
def pickW (W : List (Nat × K0.D)) (idx : List Nat) : List (Nat × K0.D) := idx.map fun i => W.getD i (0, .non)
def idxD (idx : List Nat) : K0.D := .tup (idx.map fun i : Nat => K0.D.int (i : Int))
theorem getD_mem {α : Type} {l : List α} {i : Nat} {x : α} (h : i < l.length) : l.getD i x ∈ l := by
  rw [List.getD_eq_getElem?_getD, List.getElem?_eq_getElem h]
  exact List.getElem_mem h
theorem rp_maps {H : Hp} {α : Type} {v : α → V} {f : α → K0.D} : ∀ (l : List α), (∀ i ∈ l, Rp K H (v i) (f i)) → RpAll K H (l.map v) (l.map f)
  | [], _ => .nil
  | a :: l, h => .cons (h a (List.mem_cons_self ..)) (rp_maps l fun i hi => h i (List.mem_cons_of_mem _ hi))
theorem map_rangeD {α β : Type} (g : α → β) (x : α) : ∀ l : List α, (List.range l.length).map (fun i => g (l.getD i x)) = l.map g
  | [] => rfl
  | a :: l => by
    rw [List.length_cons, List.range_succ_eq_map, List.map_cons, List.map_cons, List.map_map, ← map_rangeD g x l]
    rfl
theorem indices_ok {idx : List Nat} {m : Nat} (h : ∀ i ∈ idx, i < m) (hm : m ≤ 1000) (ha : ascB (idx.map fun i : Nat => (i : Int)) = true) : (idxD idx).indices (m : Int) = true := by
  show ((idx.map fun i : Nat => K0.D.int (i : Int)).all (K0.D.within 0 ((m : Int) - 1)) && ascB ((idx.map fun i : Nat => K0.D.int (i : Int)).map K0.D.toInt)) = true
  have e : (idx.map fun i : Nat => K0.D.int (i : Int)).map K0.D.toInt = idx.map fun i : Nat => (i : Int) := by
    rw [List.map_map]
    rfl
  rw [e, ha, List.all_map, List.all_eq_true.mpr fun i hi => ?_]
  · rfl
  · have := h i hi
    exact within_ok (by omega) (by omega) (by omega)
def sp_Disk_fallen (K : PySem.W.Frag) (A : Ad) : Sp := fun vs H Q _ => ∃ p S W x idx, vs = [.ref p, x] ∧ DiskAt K A.Disk H p S W ∧ Rp K H x (idxD idx) ∧ idx.length ≤ 1000 ∧ (∀ i ∈ idx, i < W.length) ∧ ascB (idx.map fun i : Nat => (i : Int)) = true ∧ RetDisk K A.Disk (rd S (pickW W idx)) [] H Q
theorem len_Disk_fallen {vs : List V} {H : Hp} {Q : VK} {E : XK} (h : sp_Disk_fallen K A vs H Q E) : vs.length = 2 := by
  obtain ⟨p, S, W, x, idx, rfl, _⟩ := h
  rfl
theorem DOk.pick {S : List K0.D} {W : List (Nat × K0.D)} (h : DOk S W) {idx : List Nat} (hi : ∀ i ∈ idx, i < W.length) : ∀ p ∈ pickW W idx, p.1 < S.length ∧ p.2 ∈ menu := fun p hp => by
  obtain ⟨i, him, rfl⟩ := List.mem_map.mp hp
  exact h.bw _ (getD_mem (hi i him))
theorem DOk.fall {S : List K0.D} {W : List (Nat × K0.D)} (h : DOk S W) {idx : List Nat} (hi : ∀ i ∈ idx, i < W.length) : DOk (rd S (pickW W idx)) [] :=
  ⟨by rw [rd_len]; exact h.lo, by rw [rd_len]; exact h.hi, Nat.zero_le _, rd_mem h.bs fun p hp => (h.pick hi p hp).2, fun p hp => by cases hp⟩
theorem ok_Disk_fallen (T : Txt K mg A D) : FnOk P w K mg base CX0 12 A.Disk_fallen D.Disk_fallen ["self", "kept"] (sp_Disk_fallen K A) := by
  have G_are_indices : FnOk P w K mg base CX0 3 A.are_indices D.are_indices ["value", "many"] (sp_are_indices K) := ok_are_indices T
  have G_made : FnOk P w K mg base CX0 11 A.made D.made ["sure", "waiting"] (sp_made K A) := ok_made T
  have G_behind : FnOk P w K mg base CX0 1 A.behind D.behind ["sure", "puts"] (sp_behind K A) := ok_behind T
  refine T.F_Disk_fallen.ok sc_Disk_fallen (fun vs H Q E h => len_Disk_fallen h) (fun cdv A0 outer s H vs Q E hr h => ?_)
  refine ⟨_, (pss_cons (ps_if (pt_not (pt_val (pe_call G_are_indices (hr.mono (by decide)) rfl T.g_are_indices T.F_are_indices.kp T.b_are_indices .nil pass0 (pa_cons (pv 1) (pa_cons (pe_callB call_len (by rfl) T.b_len (by decide +kernel) (pa_cons (pe_fld (pv 0) (by rfl)) pa_nil)) pa_nil))))) (pss_one ps_never) pss_nil)
  (pss_one (ps_ret (pe_call G_made (hr.mono (by decide)) rfl T.g_made T.F_made.kp T.b_made .nil pass0 (pa_cons (pe_call G_behind (hr.mono (by decide)) rfl T.g_behind T.F_behind.kp T.b_behind .nil pass0 (pa_cons (pe_fld (pv 0) (by rfl)) (pa_cons (pe_lc (own := [("index", 2)]) (g := gName 2) (tt := tYes) rfl sc_Disk_fallen.nd (pi_tup (pv 1)) (blkOk_by (own := [("index", 2)]) (N := N_Disk_fallen) (sc := defScope s_Disk_fallen) (by decide +kernel)) (fun _ _ _ _ _ => by exact pg_name (i := 2) sc_Disk_fallen.nd rfl (Or.inl rfl)) (fun _ _ _ _ _ => by exact pts_nil) (fun _ _ _ _ _ => by exact (pe_ix (ix_tupK (K := K) (by rfl)) (pe_fldK (K := K) (pv 0) (by rfl) (by rfl)) (pv 2) (fun _ _ => rfl)))) pa_nil))) (pa_cons (pe_tup pa_nil) pa_nil)))))), ?_⟩
  obtain ⟨p, S, W, x, idx, rfl, ⟨⟨dx, a, b, hp, ha, hb⟩, ok⟩, hx, hl, hi, hasc, k⟩ := h
  obtain ⟨ys, sb, rb⟩ := hb.tupR
  have hyl : ys.length = W.length := by rw [rb.len, List.length_map]
  have hwl := ok.wl
  have hind : (idxD idx).indices (ys.length : Int) = true := by
    rw [hyl]
    exact indices_ok hi (by omega) hasc
  obtain ⟨xa, xs, rfl, sx, rx⟩ := hx.tupI
  have hxl : xs.length = idx.length := by rw [rx.len, List.length_map]
  refine q_when (b := false) (et_is (et_not (et_B (ev_call (ea_cons (ev_var rfl) (ea_cons (ev_cb (ea_cons (ev_fld (ev_var rfl) hp T.cl_Disk T.no_Disk_waiting (look_w _ _)) ea_nil) (rc_lenT sb)) ea_nil)) (sv_indices hx (by show (idx.map fun i : Nat => K0.D.int (i : Int)).length ≤ 40000; rw [List.length_map]; omega))))) (by rw [hind]; rfl)) (fun z => by cases z) fun _ H1 e1 => ?_
  refine n_ret (d_call (K := K) (eda_cons (d := .tup (rd S (pickW W idx))) (fun H2 e2 Q2 q2 => ?_) (eda_cons (ed_tup eda_nil (by simp)) eda_nil)) fun vs H3 e3 r => ?_)
  · have e02 := e1.trans e2
    refine d_raw (n_cons ?_)
    refine ev_fld (ev_var rfl) (e02 _ _ hp) T.cl_Disk T.no_Disk_sure (look_s _ _) H2 (Ex.refl _) _ fun H3 e3 => ?_
    have e03 := e02.trans e3
    refine n_cons ?_
    refine el_lcT (fun _ => true) (fun i => ys.getD (idx.getD i 0) .non) (ev_var rfl) (ex_t e03 sx) (by omega) (fun _ => rfl) (fun i y H4 e4 hy => et_yes) (fun i y H4 e4 hy _ => ?_) H3 (Ex.refl _) _ fun l H4 hl4 e4 h4 => ?_
    · obtain ⟨d, hd, hrd⟩ := RpAll.get _ _ _ _ (rx.ex (e03.trans e4)) hy
      rw [List.getElem?_map] at hd
      obtain ⟨n, hn, rfl⟩ : ∃ n, idx[i]? = some n ∧ K0.D.int (n : Int) = d := by
        cases g : idx[i]? with
        | none => rw [g] at hd; cases hd
        | some n => rw [g] at hd; exact ⟨n, rfl, Option.some.inj hd⟩
      cases hrd
      have hlt : n < ys.length := by
        rw [hyl]
        exact hi n (List.mem_of_getElem? hn)
      refine ev_op (ev_fld (ev_var rfl) ((e03.trans e4) _ _ hp) T.cl_Disk T.no_Disk_waiting (look_w _ _)) (ev_var rfl) (rv_ixT (ex_t (e03.trans e4) sb) ?_)
      unfold atI
      rw [ixN_nat hlt]
      show ys[n]? = some (ys.getD (idx.getD i 0) .non)
      rw [gd_some hn, gd_some (List.getElem?_eq_getElem hlt)]
      exact List.getElem?_eq_getElem hlt
    · refine .inr ⟨_, l, _, S, pickW W idx, rfl, ha.ex (e03.trans e4), sq_of h4, ?_, fun q hq => (ok.pick hi q hq).1, by have := ok.hi; omega, by unfold pickW; rw [List.length_map]; exact hl, fun v H5 e5 hv => q2 v H5 ((e3.trans e4).trans e5) hv⟩
      rw [given_map (fun _ => rfl), hxl]
      have ew : (pickW W idx).map prD = (List.range idx.length).map (fun i => prD (W.getD (idx.getD i 0) (0, .non))) := by
        rw [map_rangeD (fun n => prD (W.getD n (0, .non))) 0 idx]
        unfold pickW
        rw [List.map_map]
        rfl
      rw [ew]
      refine rp_maps _ fun i him => ?_
      have hlt : idx.getD i 0 < W.length := hi _ (getD_mem (List.mem_range.mp him))
      have hlt' : idx.getD i 0 < ys.length := by rw [hyl]; exact hlt
      obtain ⟨d, hd, hrd⟩ := RpAll.get _ _ (idx.getD i 0) _ (rb.ex (e03.trans e4)) (List.getElem?_eq_getElem hlt')
      rw [List.getElem?_map, List.getElem?_eq_getElem hlt] at hd
      have hd' := Option.some.inj hd
      rw [gd_some (List.getElem?_eq_getElem hlt'), gd_some (List.getElem?_eq_getElem hlt)]
      rw [hd']
      exact hrd
  · cases r with
    | cons r1 r =>
      cases r with
      | cons r2 r =>
        cases r
        exact ⟨_, _, _, [], rfl, r1, r2, ok.fall hi, fun q H2 e2 hq => k q H2 ((e1.trans e3).trans e2) hq⟩
def eqD (S S' : List K0.D) (W W' : List (Nat × K0.D)) : Bool := PyData.eqv (K0.D.tup S).py (K0.D.tup S').py && PyData.eqv (K0.D.tup (W.map prD)).py (K0.D.tup (W'.map prD)).py
def OtherV (K : PySem.W.Frag) (H : Hp) (y : V) : Prop := y = .non ∨ ∃ r zs, y = .ref r ∧ SqT K H r zs
def sp_Disk_eq (K : PySem.W.Frag) (A : Ad) : Sp := fun vs H Q _ => ∃ p S W y c, vs = [.ref p, y] ∧ DiskAt K A.Disk H p S W ∧ ((∃ q S' W', y = .ref q ∧ DiskAt K A.Disk H q S' W' ∧ c = eqD S S' W W') ∨ (OtherV K H y ∧ c = false)) ∧ RetV (.bl c) H Q
theorem len_Disk_eq {vs : List V} {H : Hp} {Q : VK} {E : XK} (h : sp_Disk_eq K A vs H Q E) : vs.length = 2 := by
  obtain ⟨p, S, W, y, c, rfl, _⟩ := h
  rfl
theorem ok_Disk_eq (T : Txt K mg A D) : FnOk P w K mg base CX0 1 A.Disk_eq D.Disk_eq ["self", "other"] (sp_Disk_eq K A) := by
  refine T.F_Disk_eq.ok sc_Disk_eq (fun vs H Q E h => len_Disk_eq h) (fun cdv A0 outer s H vs Q E hr h => ?_)
  refine ⟨_, (pss_one (ps_ret (pe_and (pe_callB call_isi (by rfl) T.b_isinstance (by decide +kernel) (pa_cons (pv 1) (pa_cons (pe_glob (v := .ref A.Disk) rfl T.g_Disk rfl) pa_nil))) (pe_and (pe_cmpR (op_eqD hr.units) (pe_fld (pv 0) (by rfl)) (pe_fld (pv 1) (by rfl)) (nomark _)) (pe_one (pe_cmpR (op_eqD hr.units) (pe_fld (pv 0) (by rfl)) (pe_fld (pv 1) (by rfl)) (nomark _))))))), ?_⟩
  obtain ⟨p, S, W, y, c, rfl, ⟨⟨dx, a, b, hp, ha, hb⟩, ok⟩, hy, k⟩ := h
  rcases hy with ⟨q, S', W', rfl, ⟨⟨dy, a', b', hq, ha', hb'⟩, ok'⟩, rfl⟩ | ⟨ho, rfl⟩
  · refine s_ret (ev_is (ev_andV (a := true) (b := eqD S S' W W') (ev_cb (ea_cons (ev_var rfl) (ea_cons ev_c ea_nil)) (rc_kitI (P := fun _ => True) (n := "") (b := true) T.ob_Disk T.cl_Disk hq)) fun _ => ?_) (congrArg V.bl (Bool.true_and _))) fun H1 e1 => k H1 e1
    refine ev_andV (ev_op (ev_fld (ev_var rfl) hp T.cl_Disk T.no_Disk_sure (look_s _ _)) (ev_fld (ev_var rfl) hq T.cl_Disk T.no_Disk_sure (look_s _ _)) (rv_eqD ha ha' ok.fs ok'.fs (by decide))) fun _ => ?_
    exact ev_op (ev_fld (ev_var rfl) hp T.cl_Disk T.no_Disk_waiting (look_w _ _)) (ev_fld (ev_var rfl) hq T.cl_Disk T.no_Disk_waiting (look_w _ _)) (rv_eqD hb hb' ok.fw ok'.fw (by decide))
  · refine s_ret (ev_is (ev_andV (a := false) (b := true) (ev_cb (ea_cons (ev_var rfl) (ea_cons ev_c ea_nil)) ?_) fun z => by cases z) rfl) fun H1 e1 => k H1 e1
    intro H1 e1 Q1 q1
    rcases ho with rfl | ⟨r, zs, rfl, hz⟩
    · exact ⟨_, _, _, _, _, rfl, .own _, .base .non, T.kNoneType_Disk, q1 H1 (Ex.refl _)⟩
    · exact ⟨_, _, _, _, _, rfl, .own _, ty_tup (ex_t e1 hz), T.ktuple_Disk, q1 H1 (Ex.refl _)⟩
abbrev sp_Disk_str (K : PySem.W.Frag) (A : Ad) : Sp := spM K A fun S W => RetV (.str (strD S.length W.length))
theorem len_Disk_str {vs : List V} {H : Hp} {Q : VK} {E : XK} (h : sp_Disk_str K A vs H Q E) : vs.length = 1 := spM_len h
theorem ok_Disk_str (T : Txt K mg A D) : FnOk P w K mg base CX0 1 A.Disk_str D.Disk_str ["self"] (sp_Disk_str K A) := by
  refine T.F_Disk_str.ok sc_Disk_str (fun vs H Q E h => len_Disk_str h) (fun cdv A0 outer s H vs Q E hr h => ?_)
  refine ⟨_, (pss_one (ps_ret (pe_joined (PJ.cons pe_str (PJ.cons (pe_fmt (pe_callB call_len (by rfl) T.b_len (by decide +kernel) (pa_cons (pe_fld (pv 0) (by rfl)) pa_nil))) (PJ.cons pe_str (PJ.cons (pe_fmt (pe_callB call_len (by rfl) T.b_len (by decide +kernel) (pa_cons (pe_fld (pv 0) (by rfl)) pa_nil))) (PJ.cons pe_str PJ.nil)))))))), ?_⟩
  obtain ⟨p, S, W, rfl, ⟨⟨dx, a, b, hp, ha, hb⟩, ok⟩, k⟩ := h
  obtain ⟨xs, sa, ra⟩ := ha.tupR
  obtain ⟨ys, sb, rb⟩ := hb.tupR
  have hyl : ys.length = W.length := by rw [rb.len, List.length_map]
  have h1 := ok.hi
  have h2 := ok.wl
  have t1 := tos_len (n := S.length) (by omega)
  have t2 := tos_len (n := W.length) h2
  have l1 : ("disk of " : Str).length = 8 := by decide +kernel
  have l2 : (" blocks, " : Str).length = 9 := by decide +kernel
  have l3 : (" waiting" : Str).length = 8 := by decide +kernel
  have l0 : Str.empty.length = 0 := by decide +kernel
  refine s_ret (ev_is (ev_js (ej_cons ev_c ?_ (ej_cons (s := tos S.length) (ev_is (ev_fmt (i := (xs.length : Int)) (ev_cb (ea_cons (ev_fld (ev_var rfl) hp T.cl_Disk T.no_Disk_sure (look_s _ _)) ea_nil) (rc_lenT sa)) (log_small (by rw [ra.len]; omega))) (by rw [ra.len]; rfl)) ?_
    (ej_cons ev_c ?_ (ej_cons (s := tos W.length) (ev_is (ev_fmt (i := (ys.length : Int)) (ev_cb (ea_cons (ev_fld (ev_var rfl) hp T.cl_Disk T.no_Disk_waiting (look_w _ _)) ea_nil) (rc_lenT sb)) (log_small (by rw [hyl]; omega))) (by rw [hyl]; rfl)) ?_ (ej_cons ev_c ?_ ej_nil)))))) ?_) fun H1 e1 => k H1 e1
  · simp only [app_len]; omega
  · simp only [app_len]; omega
  · simp only [app_len]; omega
  · simp only [app_len]; omega
  · simp only [app_len]; omega
  · unfold strD
    rw [Str.empty_append]
theorem rp_rep {H : Hp} {xs : List V} {ds : List K0.D} (h : RpAll K H xs ds) : ∀ n : Nat, RpAll K H (List.replicate n xs).flatten (List.replicate n ds).flatten
  | 0 => .nil
  | n + 1 => by
    rw [List.replicate_succ, List.replicate_succ, List.flatten_cons, List.flatten_cons]
    exact h.app (rp_rep h n)
theorem flat_rep {α : Type} (x : α) : ∀ n : Nat, (List.replicate n [x]).flatten = List.replicate n x
  | 0 => rfl
  | n + 1 => by
    rw [List.replicate_succ, List.flatten_cons, flat_rep x n]
    rfl
theorem ed_rep {σ : L2.St} {H : Hp} {ta tb : TE} {ds : List K0.D} {n : Nat} (h : EvD K ta σ H (.tup ds)) (hb : ∀ H1, Ex H H1 → Ev tb σ H1 (.int (n : Int))) (h0 : ds ≠ []) (hl : ds.length ≤ 1000) (h1 : 2 ≤ n) (h2 : n ≤ 1000) :
    EvD K (tOp (rRepT K) ta tb) σ H (.tup (List.replicate n ds).flatten) := fun H1 a Q q =>
  h H1 a _ fun v H2 b hv => hb H2 (a.trans b) H2 (Ex.refl _) _ fun H3 c => by
    obtain ⟨p, xs, rfl, sp, rp⟩ := (hv.ex c).tupI
    refine ⟨p, (n : Int), xs, rfl, rfl, sp, fun z => h0 ?_, by omega, by omega, by rw [rp.len]; exact hl, fun t ht => ?_⟩
    · rw [z] at rp
      cases rp
      rfl
    · rw [Int.toNat_natCast]
      exact q _ _ ((b.trans c).trans (Ex.new ht)) (.tup (st_of upd_same) ((rp_rep rp n).ex (Ex.new ht)))
theorem c_makeD {σ : L2.St} {H : Hp} {te : TE} {C : Addr} {sp : Sp} {E : XK} {Q : VK} {d : K0.D} (h : EvD K te σ H d)
    (k : ∀ v H1, Ex H H1 → Rp K H1 v d → ∀ x dx, H1 x = none → H1 dx = none → dx ≠ x → sp [.ref x, v] (upd (upd H1 dx (.own x)) x (.ins C dx [])) (fun v H2 => v = .non ∧ Q (.ref x) H2) E) :
    tMake C sp [] E (tCons te tNil) σ H Q := h H (Ex.refl H) _ fun v H1 e hv => k v H1 e hv
/-- a new disk -/
theorem new_disk {C : Addr} {H1 H2 : Hp} {q dx u : Addr} {y : V} {S : List K0.D} (hq : H1 q = none) (hdx : H1 dx = none) (hy : Rp K H1 y (.tup S)) (h1 : 1 ≤ S.length) (h2 : S.length ≤ 200) (hb : ∀ d ∈ S, d ∈ menu)
    (kp : ∀ c o, upd (upd H1 dx (.own q)) q (.ins C dx []) c = some o → c ≠ q → H2 c = some o) (at_ : H2 q = some (.ins C dx [("_sure", y), ("_waiting", .ref u)])) (hu : SqT K H2 u []) : Ex H1 H2 ∧ DiskAt K C H2 q S [] := by
  have e : Ex H1 H2 := fun c o hc => kp c o (by
    rw [upd_ne (ne_of_none hc hq), upd_ne (ne_of_none hc hdx)]
    exact hc) (ne_of_none hc hq)
  obtain ⟨a, xs, rfl, _⟩ := hy.tupI
  exact ⟨e, ⟨dx, a, u, at_, hy.ex e, .tup hu .nil⟩, ⟨h1, h2, Nat.zero_le _, hb, fun p hp => by cases hp⟩⟩
def sp_Disk_empty (K : PySem.W.Frag) (A : Ad) : Sp := fun vs H Q _ => ∃ n : Nat, vs = [.ref A.Disk, .int (n : Int)] ∧ 2 ≤ n ∧ n ≤ 200 ∧ RetDisk K A.Disk (List.replicate n .non) [] H Q
theorem len_Disk_empty {vs : List V} {H : Hp} {Q : VK} {E : XK} (h : sp_Disk_empty K A vs H Q E) : vs.length = 2 := by
  obtain ⟨n, rfl, _⟩ := h
  rfl
theorem ok_Disk_empty (T : Txt K mg A D) : FnOk P w K mg base CX0 12 A.Disk_empty D.Disk_empty ["cls", "many"] (sp_Disk_empty K A) := by
  have G_check_number : FnOk P w K mg base CX0 3 A.check_number D.check_number ["given", "least", "most"] (sp_check_number K) := ok_check_number T
  have G_made : FnOk P w K mg base CX0 11 A.made D.made ["sure", "waiting"] (sp_made K A) := ok_made T
  obtain ⟨t_MAX_BLOCKS, c_MAX_BLOCKS⟩ := T.c_MAX_BLOCKS
  refine T.F_Disk_empty.ok sc_Disk_empty (fun vs H Q E h => len_Disk_empty h) (fun cdv A0 outer s H vs Q E hr h => ?_)
  refine ⟨_, (pss_cons (ps_expr (pe_call G_check_number (hr.mono (by decide)) rfl T.g_check_number T.F_check_number.kp T.b_check_number .nil pass0 (pa_cons (pv 1) (pa_cons pe_int (pa_cons (pe_glob (v := .int (200)) rfl c_MAX_BLOCKS ⟨_, rfl⟩) pa_nil)))))
  (pss_one (ps_ret (pe_call G_made (hr.mono (by decide)) rfl T.g_made T.F_made.kp T.b_made .nil pass0 (pa_cons (pe_op op_repT (pe_tup (pa_cons pe_non pa_nil)) (pv 1)) (pa_cons (pe_tup pa_nil) pa_nil)))))), ?_⟩
  obtain ⟨n, rfl, h1, h2, k⟩ := h
  refine q_drop (ev_call (ea_cons (ev_var rfl) (ea_cons ev_c (ea_cons ev_c ea_nil))) (sv_check (within_ok (by omega) (by omega) (by omega)))) fun H1 e1 => ?_
  have ms : ∀ d ∈ List.replicate n K0.D.non, d ∈ menu := fun d hd => by
    rw [List.eq_of_mem_replicate hd]
    exact List.mem_cons_self ..
  refine n_ret (d_raw ((eda_cons (ed_rep (n := n) (ed_tup (eda_cons ed_non eda_nil) (by simp)) (fun _ _ => ev_var rfl) (by simp) (by simp) h1 (by omega)) (eda_cons (ed_tup eda_nil (by simp)) eda_nil)) H1 (Ex.refl _) _ fun vs H2 e2 r => ?_))
  rw [flat_rep] at r
  cases r with
  | cons r1 r2 =>
    cases r2 with
    | cons r3 r4 =>
      cases r4
      exact ⟨_, _, List.replicate n .non, [], rfl, r1, r3, ⟨by rw [List.length_replicate]; omega, by rw [List.length_replicate]; omega, Nat.zero_le _, ms, fun p hp => by cases hp⟩, fun p H3 e3 dk => k p H3 ((e1.trans e2).trans e3) dk⟩
end
end K0

namespace K0
open PySem L2 Evl
/-! ### all but lists stays -/
def ExT (H H' : Hp) : Prop := ∀ b u, H b = some u → (∀ xs, u ≠ HO.lst xs) → H' b = some u
section
variable {K : PySem.W.Frag} {H H' : Hp}
theorem ExT.of (e : Ex H H') : ExT H H' := fun b u h _ => e b u h
theorem ExT.trans {H'' : Hp} (a : ExT H H') (b : ExT H' H'') : ExT H H'' := fun c u h n => b c u (a c u h n) n
theorem ExT.sqT {a : Addr} {xs : List V} (e : ExT H H') (h : SqT K H a xs) : SqT K H' a xs := by
  rcases h with (h | ⟨o, h⟩) | h
  · exact .inl (.inl (e _ _ h fun _ z => by cases z))
  · exact .inl (.inr ⟨o, e _ _ h fun _ z => by cases z⟩)
  · exact .inr h
mutual
theorem Rp.exT {v : V} {d : D} (c : d.clean = true) (e : ExT H H') : Rp K H v d → Rp K H' v d
  | .non => .non
  | .bl b => .bl b
  | .int i => .int i
  | .str s => .str s
  | .tup h r => .tup (e.sqT h) (RpAll.exT c e r)
  | .lst h => by cases c
  | .dct h => by cases c
theorem RpAll.exT {vs : List V} {ds : List D} (c : D.cleanL ds = true) (e : ExT H H') : RpAll K H vs ds → RpAll K H' vs ds
  | .nil => .nil
  | .cons h r => by
    have c' := Bool.and_eq_true_iff.mp c
    exact .cons (Rp.exT c'.1 e h) (RpAll.exT c'.2 e r)
end
theorem DiskAt.exT {C p : Addr} {S : List D} {W : List (Nat × D)} (e : ExT H H') (h : DiskAt K C H p S W) : DiskAt K C H' p S W := by
  obtain ⟨⟨dx, a, b, h1, h2, h3⟩, ok⟩ := h
  exact ⟨⟨dx, a, b, e _ _ h1 (fun _ z => by cases z), h2.exT (fine_c ok.fs) e, h3.exT (fine_c ok.fw) e⟩, ok⟩
/-- what is hidden is a list -/
def hidL (o : Option Addr) (H : Hp) : Prop := ∀ a, o = some a → ∃ xs, H a = some (.lst xs)
theorem exT_hid {o : Option Addr} (h : hidL o H) : ExT H (hid o H) := fun b u hb n => by
  unfold hid
  by_cases c : o = some b
  · obtain ⟨xs, hx⟩ := h b c
    rw [hb] at hx
    exact absurd (Option.some.inj hx) (n xs)
  · rw [if_neg c]
    exact hb
theorem DiceAt.hidL {a : Addr} (h : DiceAt H a) : hidL (some a) H := fun b e => by
  obtain ⟨x, y, z, h⟩ := h
  cases e
  exact ⟨_, h⟩
theorem Bt.exT {a : Addr} (h : DiceAt H a) (b : Bt a H H') : ExT H H' := ((exT_hid h.hidL).trans (ExT.of b)).trans (ExT.of hid_le)
theorem menu_clean {ds : List D} (h : ∀ d ∈ ds, d ∈ menu) : D.cleanL ds = true := by
  rw [cleanL_all]
  exact List.all_eq_true.mpr fun d hd => fine_c (blk_fine (h d hd))
theorem pr_clean {W : List (Nat × D)} (h : ∀ p ∈ W, p.2 ∈ menu) : D.cleanL (W.map prD) = true := by
  rw [cleanL_all]
  refine List.all_eq_true.mpr fun d hd => ?_
  obtain ⟨p, hp, rfl⟩ := List.mem_map.mp hd
  exact fine_c (prD_fine (h p hp))
theorem RpAll.memI : ∀ {vs : List V} {ds : List D}, RpAll K H vs ds → ∀ v ∈ vs, ∃ d ∈ ds, Rp K H v d
  | _, _, .nil, v, h => by cases h
  | _, _, .cons h r, v, hv => by
    rcases List.mem_cons.mp hv with rfl | hv
    · exact ⟨_, List.mem_cons_self .., h⟩
    · obtain ⟨d, hd, hr⟩ := RpAll.memI r v hv
      exact ⟨d, List.mem_cons_of_mem _ hd, hr⟩
end
section
variable {K : PySem.W.Frag} {σ : L2.St} {H H' : Hp} {ta tb te tn : TE} {tr : TA} {ds : List D} {d : D}
theorem l_lst {Q : VK} (h : EvDA K tr σ H ds) (l : ds.length ≤ 100000) (k : ∀ p xs H1, H p = none → Ex H H1 → H1 p = some (.lst xs) → RpAll K H1 xs ds → Q (.ref p) H1) : tLst tr σ H Q := h H (Ex.refl H) _ fun vs H1 e r =>
  ⟨by rw [r.len]; exact sz_of l, fun p hp => k p vs _ (fresh_back e hp) (e.trans (Ex.new hp)) upd_same (r.ex (Ex.new hp))⟩
/-- a new list of data -/
def EvDL (K : PySem.W.Frag) (te : TE) (σ : L2.St) (H : Hp) (ds : List D) : Prop := ∀ H1, Ex H H1 → ∀ Q : VK, (∀ p xs H2, H1 p = none → Ex H1 H2 → H2 p = some (.lst xs) → RpAll K H2 xs ds → Q (.ref p) H2) → te σ H1 Q
/-- [e for j in range(n)], each e data -/
theorem edl_range {n j : Nat} {vs : List Nat} {f : Nat → D} (hn : ∀ H1, Ex H H1 → Ev tn σ H1 (.int (n : Int))) (hz : n ≤ 1000) (hw : ∀ x, wipe ((wipe σ vs).set j (some x)) vs = wipe σ vs)
    (he : ∀ i H1, Ex H H1 → i < n → EvD K te ((wipe σ vs).set j (some (.int (i : Int)))) H1 (f i)) : EvDL K (tLc (iRng1 (tCons tn tNil)) (gName j) tYes te vs) σ H ((List.range n).map f) := fun H0 e0 Q q => by
  unfold tLc
  refine n_rng1 (n_cons (hn H0 e0 H0 (Ex.refl _) _ fun H1 e1 => ⟨(n : Int), rfl, by omega, by omega, fun Dl hD => ?_⟩))
  refine lc_range (lo := 0) (n := (n : Int).toNat) (fun i H' => i ≤ n ∧ ∃ acc, H' Dl = some (.lst acc) ∧ RpAll K H' acc ((List.range i).map f) ∧ Ex H1 H') ⟨Nat.zero_le _, [], upd_same, .nil, Ex.new hD⟩ (fun i H' hi p => ?_) (fun H' p => ?_)
  · obtain ⟨_, acc, p1, p2, p3⟩ := p
    rw [Int.toNat_natCast] at hi
    have ez : (0 : Int) + (i : Int) = (i : Int) := Int.zero_add _
    rw [ez]
    refine ⟨hw _, he i H' ((e0.trans e1).trans p3) hi H' (Ex.refl _) _ fun v H'' e2 hv => ?_⟩
    have h2 := e2 _ _ p1
    have hl : acc.length = i := by rw [p2.len, List.length_map, List.length_range]
    refine ⟨acc, h2, sz_lt (by omega), hi, acc ++ [v], upd_same, ?_, Ex.mut (p3.trans e2) hD⟩
    rw [List.range_succ, List.map_append]
    exact ((p2.ex e2).app (.cons hv .nil)).exL (ExL.upd h2)
  · obtain ⟨_, acc, p1, p2, p3⟩ := p
    rw [Int.toNat_natCast] at p2
    exact q Dl acc H' (fresh_back e1 hD) (e1.trans p3) p1 p2
theorem dpL {a : Addr} {xs : List V} (h : H a = some (.lst xs)) (r : RpAll K H xs ds) (c : D.cleanL ds = true) : Dp K H (.ref a) (.list (D.pyL ds)) := .lst (sq_of h) (r.dp c)
/-- two lists compared as data -/
theorem ev_neLL {es : List D} {n : Nat} (h1 : EvDL K ta σ H ds) (h2 : ∀ H1, Ex H H1 → ∃ b ys, Ev tb σ H1 (.ref b) ∧ H1 b = some (.lst ys) ∧ RpAll K H1 ys es) (fd : ∀ d ∈ ds, d.fine n = true) (fe : ∀ d ∈ es, d.fine n = true) (hn : n + 1 ≤ 64) :
    Ev (tOp (rNeD K) ta tb) σ H (.bl (!PyData.eqvAll (D.pyL ds) (D.pyL es))) := fun H1 a Q q =>
  h1 H1 a _ fun p xs H2 hp b hx rx => by
    obtain ⟨r, ys, ev, hy, ry⟩ := h2 H2 (a.trans b)
    refine ev H2 (Ex.refl _) _ fun H3 c => ?_
    refine ⟨.list (D.pyL ds), .list (D.pyL es), dpL (c _ _ hx) (rx.ex c) (fine_all ds fd).1, dpL (c _ _ hy) (ry.ex c) (fine_all es fe).1, shapedL_of fd hn, shapedL_of fe hn, ?_⟩
    show Q (.bl (!PyData.eqvAll (D.pyL ds) (D.pyL es))) H3
    exact q H3 (b.trans c)
/-- two lists that stand -/
theorem ev_eqLs {a b : Addr} {xs ys : List V} {es : List D} {n : Nat} (h1 : Ev ta σ H (.ref a)) (h2 : Ev tb σ H (.ref b)) (hx : H a = some (.lst xs)) (hy : H b = some (.lst ys)) (rx : RpAll K H xs ds) (ry : RpAll K H ys es) (fd : ∀ d ∈ ds, d.fine n = true) (fe : ∀ d ∈ es, d.fine n = true) (hn : n + 1 ≤ 64) :
    Ev (tOp (rEqD K) ta tb) σ H (.bl (PyData.eqvAll (D.pyL ds) (D.pyL es))) := ev_op h1 h2 fun H1 e Q q => ⟨.list (D.pyL ds), .list (D.pyL es), dpL (e _ _ hx) (rx.ex e) (fine_all ds fd).1, dpL (e _ _ hy) (ry.ex e) (fine_all es fe).1, shapedL_of fd hn, shapedL_of fe hn, q H1 (Ex.refl _)⟩
/-- tuple(xs), xs a list of data -/
theorem ed_tupOf {a : Addr} {xs : List V} (h : Ev ta σ H (.ref a)) (hx : H a = some (.lst xs)) (r : RpAll K H xs ds) : EvD K (tCB (rTupOf K) (tCons ta tNil)) σ H (.tup ds) := fun H1 e Q q =>
  eu_tupOf h (sq_of hx) H1 e Q fun p H2 hp e2 h2 => q (.ref p) H2 e2 (.tup (st_of h2) (r.ex (e.trans e2)))
/-- a property that gives data -/
theorem ed_prop {C a dx : Addr} {fs : List (Str × V)} {sp : Sp} {E : XK} (h : Ev ta σ H (.ref a)) (ha : H a = some (.ins C dx fs)) (k : ∀ H1, Ex H H1 → ∀ Q : VK, RetR K d H1 Q → sp [.ref a] H1 Q E) :
    EvD K (tProp C sp [] E ta) σ H d := fun H1 a1 Q q => h H1 a1 _ fun H2 b => ⟨a, dx, fs, rfl, (a1.trans b) _ _ ha, k H2 (a1.trans b) Q fun v H3 c hv => q v H3 (b.trans c) hv⟩
/-- a method with one argument that gives data -/
theorem ed_meth1 {C a dx : Addr} {fs : List (Str × V)} {m : Str} {sp : Sp} {E : XK} {y : V} (h : Ev ta σ H (.ref a)) (ha : H a = some (.ins C dx fs)) (l : fs.lookup m = none) (hb : ∀ H1, Ex H H1 → Ev tb σ H1 y) (k : ∀ H1, Ex H H1 → ∀ Q : VK, RetR K d H1 Q → sp [.ref a, y] H1 Q E) :
    EvD K (tMeth C m sp [] E ta (tCons tb tNil)) σ H d := fun H1 a1 Q q => h H1 a1 _ fun H2 b => ⟨a, dx, fs, rfl, (a1.trans b) _ _ ha, l, hb H2 (a1.trans b) H2 (Ex.refl _) _ fun H3 c => k H3 ((a1.trans b).trans c) Q fun v H4 g hv => q v H4 ((b.trans c).trans g) hv⟩
theorem rv_addS {a b : Str} (h : a.length + b.length ≤ 100000) : RV (fun x y H Q => ∃ i j, x = .str i ∧ y = .str j ∧ i.length + j.length ≤ sizeLine ∧ Q (.str (i ++ j)) H) (.str a) (.str b) H (.str (a ++ b)) := fun H1 _ Q q => ⟨a, b, rfl, rfl, sz_of h, q H1 (Ex.refl _)⟩
theorem rc_strI {i : Int} (h : i.natAbs.log2 < 1920) : RC (fun xs H Q => ∃ i, xs = [.int i] ∧ i.natAbs.log2 < 1920 ∧ Q (.str (toString i)) H) [.int i] H (.str (toString i)) := fun H1 _ Q q => ⟨i, rfl, h, q H1 (Ex.refl _)⟩
end
section
variable {P : Program} {w : World} {K : PySem.W.Frag} {mg : Str → Option Value} {base : Heap} {A : Ad} {D : Fd}
def sp_law_block_drawn (K : PySem.W.Frag) (_ : Ad) : Sp := fun vs H Q _ => ∃ a, vs = [.ref a] ∧ DiceAt H a ∧ ∀ x d H', d ∈ menu → Rp K H' x d → Bt a H H' → DiceAt H' a → Q x H'
theorem len_law_block_drawn {vs : List V} {H : Hp} {Q : VK} {E : XK} (h : sp_law_block_drawn K A vs H Q E) : vs.length = 1 := by
  obtain ⟨a, rfl, _⟩ := h
  rfl
theorem ok_law_block_drawn (T : Txt K mg A D) : FnOk P w K mg base CX0 3 A.law_block_drawn D.law_block_drawn ["dice"] (sp_law_block_drawn K A) := by
  have G_law_pick : FnOk P w K mg base CX0 2 A.law_pick D.law_pick ["dice", "items"] (sp_law_pick K) := ok_law_pick T
  refine T.F_law_block_drawn.ok sc_law_block_drawn (fun vs H Q E h => len_law_block_drawn h) (fun cdv A0 outer s H vs Q E hr h => ?_)
  refine ⟨_, (pss_one (ps_ret (pe_call G_law_pick (hr.mono (by decide)) rfl T.g_law_pick T.F_law_pick.kp T.b_law_pick .nil pass0 (pa_cons (pv 0) (pa_cons (pe_lst (pa_cons pe_non (pa_cons (pe_tup (pa_cons pe_str pa_nil)) (pa_cons (pe_tup (pa_cons pe_str (pa_cons pe_int pa_nil))) (pa_cons (pe_tup pa_nil) (pa_cons (pe_tup (pa_cons pe_int (pa_cons pe_non (pa_cons (pe_tup (pa_cons pe_str (pa_cons (pe_tup (pa_cons pe_int pa_nil)) pa_nil))) pa_nil)))) (pa_cons (pe_tup (pa_cons pe_int pa_nil)) (pa_cons (pe_tup (pa_cons pe_str pa_nil)) pa_nil)))))))) pa_nil))))), ?_⟩
  obtain ⟨a, rfl, ha, k⟩ := h
  refine n_ret (d_raw (n_cons (ev_var rfl H (Ex.refl _) _ fun H1 e1 => n_cons ?_)))
  refine l_lst (K := K) (ds := [.non, .tup [.str "a"], .tup [.str "b", .int 1], .tup [], .tup [.int 1, .non, .tup [.str "x", .tup [.int 2]]], .tup [.int 0], .tup [.str "a"]]) ?_ (by simp) fun p xs H2 hp e2 h2 r => ?_
  · repeat' first
      | exact eda_nil
      | exact ed_non
      | exact ed_int
      | exact ed_str
      | refine ed_tup ?_ (by simp)
      | refine eda_cons ?_ ?_
  · have e := e1.trans e2
    have ha1 := ha.ex e1
    refine ⟨a, p, xs, rfl, ha.ex e, ha1.ne hp, sq_of h2, fun z => ?_, by rw [r.len]; simp, fun x H3 hx hb hd => ?_⟩
    · rw [z] at r
      cases r
    · obtain ⟨d, hdm, hr'⟩ := r.memI x hx
      have hm : d ∈ menu := by
        simp only [List.mem_cons, List.not_mem_nil, or_false] at hdm
        rcases hdm with rfl | rfl | rfl | rfl | rfl | rfl | rfl <;> simp [menu]
      exact k x d H3 hm (hr'.exT (fine_c (blk_fine hm)) (hb.exT (ha.ex e))) ((Bt.of e).trans hb) hd
end
end K0

namespace K0
open PySem L2 Evl
theorem range_all {α : Type} (x : α) (l : List α) {n : Nat} (h : l.length = n) : (List.range n).map (fun i => l.getD i x) = l := by
  subst h
  have := map_rangeD (fun y : α => y) x l
  rw [List.map_id''] at this
  · exact this
  · intro y
    rfl
section
variable {P : Program} {w : World} {K : PySem.W.Frag} {mg : Str → Option Value} {base : Heap} {A : Ad} {D : Fd}
theorem et_neD {σ : L2.St} {H : Hp} {ta tb : TE} {d : K0.D} {n : Nat} (h1 : EvD K ta σ H d) (h2 : EvD K tb σ H d) (fd : d.fine n = true) (hn : n ≤ 64) : EvT (tTest (tOp (rNeD K) ta tb)) σ H false := et_is (et_test (ev_neD h1 h2 fd fd hn)) (by
  rw [eqv_self d (fine_c fd)]
  rfl)
def sp_law_is_right (K : PySem.W.Frag) (A : Ad) : Sp := fun vs H Q _ => ∃ p ls lw xs ys S W, vs = [.ref p, .ref ls, .ref lw] ∧ DiskAt K A.Disk H p S W ∧ H ls = some (.lst xs) ∧ RpAll K H xs S ∧ H lw = some (.lst ys) ∧ RpAll K H ys (W.map prD) ∧ RetV (.bl true) H Q
theorem len_law_is_right {vs : List V} {H : Hp} {Q : VK} {E : XK} (h : sp_law_is_right K A vs H Q E) : vs.length = 3 := by
  obtain ⟨p, ls, lw, xs, ys, S, W, rfl, _⟩ := h
  rfl
theorem ok_law_is_right (T : Txt K mg A D) : FnOk P w K mg base CX0 10 A.law_is_right D.law_is_right ["disk", "sure", "waiting"] (sp_law_is_right K A) := by
  have G_Disk_sure : FnOk P w K mg base CX0 1 A.Disk_sure D.Disk_sure ["self"] (sp_Disk_sure K A) := ok_Disk_sure T
  have G_Disk_waiting : FnOk P w K mg base CX0 1 A.Disk_waiting D.Disk_waiting ["self"] (sp_Disk_waiting K A) := ok_Disk_waiting T
  have G_Disk_blocks : FnOk P w K mg base CX0 2 A.Disk_blocks D.Disk_blocks ["self"] (sp_Disk_blocks K A) := ok_Disk_blocks T
  have G_Disk_read : FnOk P w K mg base CX0 6 A.Disk_read D.Disk_read ["self", "place"] (sp_Disk_read K A) := ok_Disk_read T
  have G_Disk_len : FnOk P w K mg base CX0 1 A.Disk_len D.Disk_len ["self"] (sp_Disk_len K A) := ok_Disk_len T
  have G_Disk_str : FnOk P w K mg base CX0 1 A.Disk_str D.Disk_str ["self"] (sp_Disk_str K A) := ok_Disk_str T
  obtain ⟨_, hp_Disk_sure⟩ := T.p_Disk_sure
  obtain ⟨_, hp_Disk_waiting⟩ := T.p_Disk_waiting
  refine T.F_law_is_right.ok sc_law_is_right (fun vs H Q E h => len_law_is_right h) (fun cdv A0 outer s H vs Q E hr h => ?_)
  refine ⟨_, (pss_cons (ps_set (i := 3) sc_law_is_right.nd rfl (Or.inl rfl) (pe_callTy call_list_of (by rfl) T.b_list (by decide +kernel) (pa_cons (pv 1) pa_nil)))
  (pss_cons (ps_for PassesOwn.never rfl (pi_list (pv 2)) (pg_tup rfl (pgs_cons (pg_name (i := 4) sc_law_is_right.nd rfl (Or.inl rfl)) (pgs_cons (pg_name (i := 5) sc_law_is_right.nd rfl (Or.inl rfl)) pgs_nil))) (pss_one (ps_asg (pv 5) (pg_sub (pv 3) (pv 4) set_list))))
  (pss_cons (ps_if (PW.pt (pw_or (pt_cmpR (op_neD hr.units) (pe_prop (pv 0) T.cl_Disk hp_Disk_sure G_Disk_sure (hr.mono (by decide)) T.b_Disk_sure .nil pass0 (by rfl)) (pe_callTy call_tuple_of (by rfl) T.b_tuple (by decide +kernel) (pa_cons (pv 1) pa_nil)) (nomark _)) (pw_or (pt_cmpR (op_neD hr.units) (pe_prop (pv 0) T.cl_Disk hp_Disk_waiting G_Disk_waiting (hr.mono (by decide)) T.b_Disk_waiting .nil pass0 (by rfl)) (pe_callTy call_tuple_of (by rfl) T.b_tuple (by decide +kernel) (pa_cons (pv 2) pa_nil)) (nomark _)) (pw_or (pt_cmpR (op_neD hr.units) (pe_meth0 (pv 0) T.cl_Disk T.m_Disk_blocks G_Disk_blocks (hr.mono (by decide)) T.b_Disk_blocks .nil pass0 ) (pe_callTy call_tuple_of (by rfl) T.b_tuple (by decide +kernel) (pa_cons (pv 3) pa_nil)) (nomark _)) (pw_or1 (pt_cmpR op_ne (pe_callB (cr_lenO G_Disk_len (hr.mono (by decide)) T.b_Disk_len pass0 T.m_Disk_len.at_ T.m_Disk_len.fn) (by rfl) T.b_len (by decide +kernel) (pa_cons (pv 0) pa_nil)) (pe_callB call_len (by rfl) T.b_len (by decide +kernel) (pa_cons (pv 1) pa_nil)) (nomark _))))))) (pss_one (ps_ret pe_bl)) pss_nil)
  (pss_cons (ps_if (pt_cmpR (op_neD hr.units) (pe_lc (own := [("place", 4)]) (g := gName 4) (tt := tYes) rfl sc_law_is_right.nd (pi_range1 rfl T.b_range (pa_cons (pe_callB call_len (by rfl) T.b_len (by decide +kernel) (pa_cons (pv 1) pa_nil)) pa_nil)) (blkOk_by (own := [("place", 4)]) (N := N_law_is_right) (sc := defScope s_law_is_right) (by decide +kernel)) (fun _ _ _ _ _ => by exact pg_name (i := 4) sc_law_is_right.nd rfl (Or.inl rfl)) (fun _ _ _ _ _ => by exact pts_nil) (fun _ _ _ _ _ => by exact (pe_meth (pv 0) T.cl_Disk T.m_Disk_read G_Disk_read (hr.mono (by decide)) T.b_Disk_read .nil pass0 (pa_cons (pv 4) pa_nil)))) (pv 3) (nomark _)) (pss_one (ps_ret pe_bl)) pss_nil)
  (pss_one (ps_ret (pe_cmpR op_eq (pe_callTy (cr_strO G_Disk_str (hr.mono (by decide)) T.b_Disk_str pass0 T.m_Disk_str.at_ T.m_Disk_str.fn) (by rfl) T.b_str (by decide +kernel) (pa_cons (pv 0) pa_nil)) (pe_op op_add_str (pe_op op_add_str (pe_op op_add_str (pe_op op_add_str pe_str (pe_callTy call_str_int (by rfl) T.b_str (by decide +kernel) (pa_cons (pe_callB call_len (by rfl) T.b_len (by decide +kernel) (pa_cons (pv 1) pa_nil)) pa_nil))) pe_str) (pe_callTy call_str_int (by rfl) T.b_str (by decide +kernel) (pa_cons (pe_callB call_len (by rfl) T.b_len (by decide +kernel) (pa_cons (pv 2) pa_nil)) pa_nil))) pe_str) (nomark _)))))))), ?_⟩
  obtain ⟨p, ls, lw, xs, ys, S, W, rfl, hd, hs, rs, hw, rb, k⟩ := h
  obtain ⟨⟨dx, a, b, hp, ha, hb⟩, ok⟩ := id hd
  have hhi := ok.hi
  have hwl := ok.wl
  refine q_asgL (el_list (ev_var rfl) (sq_of hs)) fun l H1 hl e1 h1 => ?_
  refine q_forL (ev_var rfl) (sq_of (e1 _ _ hw)) (fun i σ' H' => ∃ zs v4 v5, σ' = [some (.ref p), some (.ref ls), some (.ref lw), some (.ref l), v4, v5] ∧ Ex H H' ∧ H' l = some (.lst zs) ∧ RpAll K H' zs (rd S (W.take i))) (fun H2 e2 => ?_) (fun i σ' H' _ ⟨_, _, _, _, e, _⟩ => sq_of (e _ _ hw)) (fun i z σ' H' hz q => ?_) (fun σ' H' q => ?_)
  · exact ⟨xs, none, none, rfl, e1.trans e2, e2 _ _ h1, rs.ex (e1.trans e2)⟩
  · obtain ⟨zs, v4, v5, rfl, e, hzs, rz⟩ := q
    obtain ⟨d, hdd, hrp⟩ := RpAll.get _ _ _ _ (rb.ex e) hz
    rw [List.getElem?_map] at hdd
    obtain ⟨q, hq, rfl⟩ : ∃ q, W[i]? = some q ∧ prD q = d := by
      cases g : W[i]? with
      | none => rw [g] at hdd; cases hdd
      | some q => rw [g] at hdd; exact ⟨q, rfl, Option.some.inj hdd⟩
    obtain ⟨t, v, rfl, ht, hv⟩ := hrp.pairI
    have hlen : zs.length = S.length := rz.len.trans (rd_len _ _)
    refine ⟨t, _, rfl, ht, rfl, _, _, rfl, _, _, rfl, rfl, ?_⟩
    refine s_setL (j := q.1) hzs (ev_var rfl) (ev_var rfl) (ev_var rfl) (by rw [hlen]; exact (ok.bw q (List.mem_of_getElem? hq)).1) fun H3 e3 => ?_
    have h3 := e3 _ _ hzs
    refine ⟨_, _, _, rfl, Ex.mut (e.trans e3) hl, upd_same, ?_⟩
    rw [rd_take hq]
    exact RpAll.setI _ ((rz.ex e3).exL (ExL.upd h3)) ((hv.ex e3).exL (ExL.upd h3))
  · obtain ⟨zs, v4, v5, rfl, e, hzs, rz⟩ := q
    have hn : ys.length = W.length := by rw [rb.len, List.length_map]
    have hxl : xs.length = S.length := rs.len
    rw [hn, List.take_length] at rz
    have okr := ok.sync
    refine q_when (b := false) (et_is (et_or (a := false) (b := false) (et_neD (d := .tup S) (ed_prop (ev_var rfl) (e _ _ hp) fun H2 e2 Q k1 => ⟨p, S, W, rfl, hd.ex (e.trans e2), k1⟩) (ed_tupOf (ev_var rfl) (e _ _ hs) (rs.ex e)) ok.fs (by decide)) fun _ => et_is (et_or (a := false) (b := false)
      (et_neD (d := .tup (W.map prD)) (ed_prop (ev_var rfl) (e _ _ hp) fun H2 e2 Q k1 => ⟨p, S, W, rfl, hd.ex (e.trans e2), k1⟩) (ed_tupOf (ev_var rfl) (e _ _ hw) (rb.ex e)) ok.fw (by decide)) fun _ => et_is (et_or (a := false) (b := false)
      (et_neD (d := .tup (rd S W)) (ed_meth0 (ev_var rfl) (e _ _ hp) (look_no _ _ (by decide +kernel) (by decide +kernel)) fun H2 e2 Q k1 => ⟨p, S, W, rfl, hd.ex (e.trans e2), k1⟩) (ed_tupOf (ev_var rfl) hzs rz) okr.fs (by decide)) fun _ =>
      et_is (et_test (ev_op (x := .int (S.length : Int)) (y := .int (S.length : Int)) (ev_cb (ea_cons (ev_var rfl) ea_nil) fun H2 e2 Q q => ⟨p, dx, _, rfl, (e.trans e2) _ _ hp, p, S, W, rfl, hd.ex (e.trans e2), fun H3 e3 => ⟨S.length, rfl, by omega, q H3 e3⟩⟩) (ev_is (ev_cb (ea_cons (ev_var rfl) ea_nil) (rc_lenL (sq_of (e _ _ hs)))) (by rw [hxl])) (rv_ne rfl))) (by rw [decide_eq_true rfl]; rfl)) rfl) rfl) rfl) (fun z => by cases z) fun _ H2 e2 => ?_
    have e02 := e.trans e2
    refine q_when (b := false) (et_is (et_test (ev_neLL (n := 5) (ds := rd S W) (es := rd S W) (by
      rw [← range_all .non (rd S W) (rd_len S W)]
      refine edl_range (n := S.length) (fun H3 e3 => ev_is (ev_cb (ea_cons (ev_var rfl) ea_nil) (rc_lenL (sq_of ((e02.trans e3) _ _ hs)))) (by rw [hxl])) (by omega) (fun _ => rfl) (fun i H3 e3 hi => ?_)
      refine ed_meth1 (y := .int (i : Int)) (ev_var rfl) ((e02.trans e3) _ _ hp) (look_no _ _ (by decide +kernel) (by decide +kernel)) (fun _ _ => ev_var rfl) fun H4 e4 Q k1 => ?_
      have hlt : i < (rd S W).length := by
        rw [rd_len]
        exact hi
      refine ⟨p, S, W, i, _, rfl, hd.ex ((e02.trans e3).trans e4), ?_, k1⟩
      rw [gd_some (List.getElem?_eq_getElem hlt)]
      exact List.getElem?_eq_getElem hlt) (fun H3 e3 => ⟨l, zs, ev_var rfl, (e2.trans e3) _ _ hzs, rz.ex (e2.trans e3)⟩) (fun d hd => blk_fine (okr.bs d hd)) (fun d hd => blk_fine (okr.bs d hd)) (by decide))) (by
        rw [eqvAll_self _ (menu_clean okr.bs)]
        rfl)) (fun z => by cases z) fun _ H3 e3 => ?_
    have e03 := e02.trans e3
    have t1 := tos_len (n := S.length) (by omega)
    have t2 := tos_len (n := W.length) hwl
    have l1 : ("disk of " : Str).length = 8 := by decide +kernel
    have l2 : (" blocks, " : Str).length = 9 := by decide +kernel
    have l3 : (" waiting" : Str).length = 8 := by decide +kernel
    refine s_ret (ev_is (ev_op (x := .str (strD S.length W.length)) (y := .str (strD S.length W.length)) (ev_cb (ea_cons (ev_var rfl) ea_nil) fun H4 e4 Q q => ⟨p, dx, _, rfl, (e03.trans e4) _ _ hp, p, S, W, rfl, hd.ex (e03.trans e4), fun H5 e5 => ⟨_, rfl, q H5 e5⟩⟩)
      (ev_op (ev_op (y := .str (tos W.length)) (ev_op (ev_op (y := .str (tos S.length)) ev_c (ev_is (ev_cb (ea_cons (ev_is (ev_cb (ea_cons (ev_var rfl) ea_nil) (rc_lenL (sq_of (e03 _ _ hs)))) (by rw [hxl])) ea_nil) (rc_strI (i := (S.length : Int)) (log_small (by omega)))) rfl) (rv_addS ?_)) ev_c (rv_addS ?_))
        (ev_is (ev_cb (ea_cons (ev_is (ev_cb (ea_cons (ev_var rfl) ea_nil) (rc_lenL (sq_of (e03 _ _ hw)))) (by rw [hn])) ea_nil) (rc_strI (i := (W.length : Int)) (log_small (by omega)))) rfl) (rv_addS ?_)) ev_c (rv_addS ?_)) (rv_eq rfl)) (by rw [decide_eq_true rfl])) fun H4 e4 => k H4 (e03.trans e4)
    · omega
    · simp only [app_len]; omega
    · simp only [app_len]; omega
    · simp only [app_len]; omega
end
end K0

namespace K0
open PySem L2 Evl
/-- a disk and its two lists, beside the dice -/
structure Tri (K : PySem.W.Frag) (C a p ls lw : Addr) (xs ys : List V) (S : List D) (W : List (Nat × D)) (H : Hp) : Prop where
  dice : DiceAt H a
  dk : DiskAt K C H p S W
  ns : ls ≠ a
  hs : H ls = some (.lst xs)
  rs : RpAll K H xs S
  nw : lw ≠ a
  hw : H lw = some (.lst ys)
  rb : RpAll K H ys (W.map prD)
section
variable {K : PySem.W.Frag} {C a p ls lw : Addr} {xs ys : List V} {S : List D} {W : List (Nat × D)} {H H' : Hp}
theorem Tri.bt (t : Tri K C a p ls lw xs ys S W H) (b : Bt a H H') (d : DiceAt H' a) : Tri K C a p ls lw xs ys S W H' :=
  have e := b.exT t.dice
  ⟨d, t.dk.exT e, t.ns, b.at t.ns t.hs, t.rs.exT (menu_clean t.dk.ok.bs) e, t.nw, b.at t.nw t.hw, t.rb.exT (pr_clean fun q hq => (t.dk.ok.bw q hq).2) e⟩
theorem Tri.ex (t : Tri K C a p ls lw xs ys S W H) (e : Ex H H') : Tri K C a p ls lw xs ys S W H' :=
  ⟨t.dice.ex e, t.dk.ex e, t.ns, e _ _ t.hs, t.rs.ex e, t.nw, e _ _ t.hw, t.rb.ex e⟩
end
section
variable {σ : L2.St} {H H' : Hp} {ta tb te tx : TE} {t u : TT} {tr : TA} {Q : VK} {D : Ends} {tz : TS}
theorem q_par {i j : Nat} (h : tr σ H fun vs H1 => ∃ v w, vs = [v, w] ∧ tz D ((σ.set i (some v)).set j (some w)) H1) : tSeq (tPar i j tr) tz D σ H := h
theorem q_asgX {i : Nat} (h : te σ H fun v H1 => tz D (σ.set i (some v)) H1) : tSeq (tAsg te (gName i)) tz D σ H := h
theorem n_tup (h : tr σ H fun xs H1 => xs.length ≤ sizeLine ∧ ∀ p, H1 p = none → Q (.ref p) (upd H1 p (.tup xs))) : tTup tr σ H Q := h
theorem n_var {i : Nat} {v : V} (h : σ[i]? = some (some v)) (k : Q v H) : tVar i σ H Q := ⟨v, h, k⟩
theorem n_op {r : R2} (h : ta σ H fun x H1 => tb σ H1 fun y H2 => r x y H2 Q) : tOp r ta tb σ H Q := h
theorem n_nil {k : List V → Hp → Prop} (h : k [] H) : tNil σ H k := h
theorem n_if {b : Bool} (h : EvT t σ H b) (h1 : b = true → ∀ H1, Ex H H1 → ta σ H1 Q) (h2 : b = false → ∀ H1, Ex H H1 → tb σ H1 Q) : tIf t ta tb σ H Q := h H (Ex.refl H) _ fun H1 e => by
  cases b with
  | true => exact h1 rfl H1 e
  | false => exact h2 rfl H1 e
theorem c_meth {C p dx : Addr} {fs : List (Str × V)} {m : Str} {sp : Sp} {E : XK} {vs : List V} (h : Ev ta σ H (.ref p)) (hp : H p = some (.ins C dx fs)) (l : fs.lookup m = none) (ha : ∀ H1, Ex H H1 → EvA tr σ H1 vs) (k : ∀ H1, Ex H H1 → sp (.ref p :: vs) H1 Q E) :
    tMeth C m sp [] E ta tr σ H Q := h H (Ex.refl H) _ fun H1 e1 => ⟨p, dx, fs, rfl, e1 _ _ hp, l, ha H1 e1 H1 (Ex.refl _) _ fun H2 e2 => by
  show sp (.ref p :: (vs ++ [])) H2 Q E
  rw [List.append_nil]
  exact k H2 (e1.trans e2)⟩
theorem c_methD {K : PySem.W.Frag} {C p dx : Addr} {fs : List (Str × V)} {m : Str} {sp : Sp} {E : XK} {d : K0.D} (h : Ev ta σ H (.ref p)) (hp : H p = some (.ins C dx fs)) (l : fs.lookup m = none) (ha : ∀ H1, Ex H H1 → EvD K tb σ H1 d) (k : ∀ v H1, Ex H H1 → Rp K H1 v d → sp [.ref p, v] H1 Q E) :
    tMeth C m sp [] E ta (tCons tb tNil) σ H Q := h H (Ex.refl H) _ fun H1 e1 => ⟨p, dx, fs, rfl, e1 _ _ hp, l, ha H1 e1 H1 (Ex.refl _) _ fun v H2 e2 hv => k v H2 (e1.trans e2) hv⟩
end
theorem asc_snoc : ∀ (l : List Int) (y : Int), ascB l = true → (∀ x ∈ l, x < y) → ascB (l ++ [y]) = true
  | [], y, _, _ => rfl
  | [x], y, _, h => by
    show (decide (x < y) && ascB [y]) = true
    rw [decide_eq_true (h x (List.mem_cons_self ..))]
    rfl
  | x :: z :: r, y, h, g => by
    have h' : (decide (x < z) && ascB (z :: r)) = true := h
    have h1 := Bool.and_eq_true_iff.mp h'
    show (decide (x < z) && ascB ((z :: r) ++ [y])) = true
    rw [h1.1, asc_snoc (z :: r) y h1.2 fun w hw => g w (List.mem_cons_of_mem _ hw)]
    rfl
def vints (idx : List Nat) : List V := idx.map fun i => V.int (i : Nat)
/-- [j for j in range(n) if ..], the test rolled -/
theorem lc_kept {tt : TT} {vs : List Nat} {σ : L2.St} {j : Nat} {a : Addr} {n : Nat} {H1 : Hp} {Pp : Prop} {Q : VK} (hd : DiceAt H1 a) (hn : n ≤ 1000)
    (hw : ∀ x, wipe ((wipe σ vs).set j (some x)) vs = wipe σ vs) (hj : ∀ x, ((wipe σ vs).set j (some x))[j]? = some (some x))
    (turn : ∀ (i : Nat) H', i < n → Bt a H1 H' → DiceAt H' a → ∀ Q : Bool → Hp → Prop, (∀ b H'', Bt a H' H'' → DiceAt H'' a → (Pp → b = true) → Q b H'') → tt ((wipe σ vs).set j (some (.int ((0 : Int) + (i : Int))))) H' Q)
    (k : ∀ D idx H', H1 D = none → Bt a H1 H' → DiceAt H' a → H' D = some (.lst (vints idx)) → ascB (idx.map fun i : Nat => (i : Int)) = true → (∀ i ∈ idx, i < n) → idx.length ≤ n → (Pp → idx = List.range n) → Q (.ref D) H') :
    ∀ D, H1 D = none → ∃ W : Nat → Nat → Hp → Prop, (∃ m, W 0 m (upd H1 D (.lst []))) ∧ ∀ i m H, W i m H →
      ((Itr 0 n).stop i H ∧ Q (.ref D) H) ∨ ((Itr 0 n).go i H ∧ ∃ Nx : Hp → Prop, (∀ H', Nx H' → ∃ m', m' < m ∧ W (i + 1) m' H') ∧ ∀ x H', (Itr 0 n).yld i H x H' → gName j x (wipe σ vs) H' fun σ2 H2 => wipe σ2 vs = wipe σ vs ∧ tt σ2 H2 fun b H3 =>
        if b = true then tVar j σ2 H3 fun y H4 => ∃ acc, H4 D = some (.lst acc) ∧ acc.length < sizeLine ∧ Nx (upd H4 D (.lst (acc ++ [y]))) else Nx H3) := fun D hD => by
  have hne : D ≠ a := hd.ne hD
  have up : ∀ H' acc, Bt a H1 H' → Bt a H1 (upd H' D (.lst acc)) := fun H' acc h b u hbu => by
    have := h b u hbu
    rw [hid_upd hne]
    have hbD : b ≠ D := fun z => by
      subst z
      have := hid_le _ _ hbu
      rw [hD] at this
      cases this
    rw [upd_ne hbD]
    exact this
  refine lc_range (lo := 0) (n := n) (fun i H' => i ≤ n ∧ ∃ idx, H' D = some (.lst (vints idx)) ∧ ascB (idx.map fun i : Nat => (i : Int)) = true ∧ (∀ x ∈ idx, x < i) ∧ idx.length ≤ i ∧ (Pp → idx = List.range i) ∧ Bt a H1 H' ∧ DiceAt H' a) ⟨Nat.zero_le _, [], upd_same, rfl, fun x h => (by cases h), Nat.le_refl _, fun _ => rfl, Bt.of (Ex.new hD), hd.ex (Ex.new hD)⟩ (fun i H' hi p => ?_) (fun H' p => ?_)
  · obtain ⟨_, idx, p1, p2, p3, p4, p5, p6, p7⟩ := p
    refine ⟨hw _, turn i H' hi p6 p7 _ fun b H'' hb hd2 hp => ?_⟩
    have h2 : H'' D = some (.lst (vints idx)) := hb.at hne p1
    cases b with
    | true =>
      rw [if_pos rfl]
      refine ⟨_, hj _, vints idx, h2, sz_lt (by unfold vints; rw [List.length_map]; omega), hi, idx ++ [i], ?_, ?_, fun x hx => ?_, by rw [List.length_append]; simp; omega, fun z => ?_, up _ _ (p6.trans hb), ?_⟩
      · rw [upd_same]
        unfold vints
        rw [List.map_append, Int.zero_add]
        rfl
      · rw [List.map_append]
        refine asc_snoc _ _ p2 fun x hx => ?_
        obtain ⟨y, hy, rfl⟩ := List.mem_map.mp hx
        have := p3 y hy
        show (y : Int) < (i : Int)
        omega
      · rcases List.mem_append.mp hx with hx | hx
        · have := p3 x hx
          omega
        · rw [List.mem_singleton.mp hx]
          omega
      · rw [p5 z, List.range_succ]
      · obtain ⟨x0, x1, x2, h⟩ := hd2
        exact ⟨x0, x1, x2, by rw [upd_ne hne.symm]; exact h⟩
    | false =>
      rw [if_neg (by decide)]
      refine ⟨hi, idx, h2, p2, fun x hx => ?_, by omega, (fun z => absurd (hp z) (by decide)), p6.trans hb, hd2⟩
      have := p3 x hx
      omega
  · obtain ⟨_, idx, p1, p2, p3, p4, p5, p6, p7⟩ := p
    exact k D idx H' hD p6 p7 p1 p2 p3 p4 p5
/-- i = [j for j in range(n) if ..] and what follows -/
theorem q_kept {tt : TT} {vs : List Nat} {σ : L2.St} {j i : Nat} {a : Addr} {n : Nat} {H : Hp} {Pp : Prop} {tn : TE} {tz : TS} {D : Ends} (hd : DiceAt H a) (hn : n ≤ 1000) (hv : Ev tn σ H (.int (n : Int)))
    (hw : ∀ x, wipe ((wipe σ vs).set j (some x)) vs = wipe σ vs) (hj : ∀ x, ((wipe σ vs).set j (some x))[j]? = some (some x))
    (turn : ∀ (i : Nat) H', i < n → Bt a H H' → DiceAt H' a → ∀ Q : Bool → Hp → Prop, (∀ b H'', Bt a H' H'' → DiceAt H'' a → (Pp → b = true) → Q b H'') → tt ((wipe σ vs).set j (some (.int ((0 : Int) + (i : Int))))) H' Q)
    (k : ∀ Dl idx H', H Dl = none → Bt a H H' → DiceAt H' a → H' Dl = some (.lst (vints idx)) → ascB (idx.map fun i : Nat => (i : Int)) = true → (∀ i ∈ idx, i < n) → idx.length ≤ n → (Pp → idx = List.range n) → tz D (σ.set i (some (.ref Dl))) H') :
    tSeq (tAsg (tLc (iRng1 (tCons tn tNil)) (gName j) tt (tVar j) vs) (gName i)) tz D σ H := by
  refine q_asgX ?_
  unfold tLc
  refine n_rng1 (n_cons (hv H (Ex.refl _) _ fun H1 e1 => ⟨(n : Int), rfl, by omega, by omega, ?_⟩))
  refine lc_kept (tt := tt) (vs := vs) (σ := σ) (j := j) (a := a) (n := (n : Int).toNat) (Pp := Pp) (Q := fun v H1 => tz D (σ.set i (some v)) H1) (hd.ex e1) (by omega) hw hj (fun i H' hi b d => turn i H' (by omega) ((Bt.of e1).trans b) d) (fun Dl idx H' h1 b d h2 h3 h4 h5 h6 => ?_)
  rw [Int.toNat_natCast] at h4 h5 h6
  exact k Dl idx H' (fresh_back e1 h1) ((Bt.of e1).trans b) d h2 h3 h4 h5 h6
theorem pick_range (W : List (Nat × D)) : pickW W (List.range W.length) = W := range_all ((0, D.non) : Nat × D) W rfl
theorem pick_take {W : List (Nat × D)} {idx : List Nat} {i n : Nat} (h : idx[i]? = some n) (S : List D) : rd S (pickW W (idx.take (i + 1))) = (rd S (pickW W (idx.take i))).set (W.getD n (0, .non)).1 (W.getD n (0, .non)).2 := by
  unfold pickW rd
  rw [List.take_succ, h, List.map_append, List.foldl_append]
  rfl
section
variable {P : Program} {w : World} {K : PySem.W.Frag} {mg : Str → Option Value} {base : Heap} {A : Ad} {D : Fd}
def sp_law_next (K : PySem.W.Frag) (A : Ad) : Sp := fun vs H Q _ => ∃ a p ls lw xs ys S W, vs = [.ref a, .ref p, .ref ls, .ref lw] ∧ Tri K A.Disk a p ls lw xs ys S W H ∧ W.length < 400 ∧
  ∀ t q ls' lw' xs' ys' S' W' H', Bt a H H' → SqT K H' t [.ref q, .ref ls', .ref lw'] → Tri K A.Disk a q ls' lw' xs' ys' S' W' H' → (ls' = ls ∨ H ls' = none) → H lw' = none → W'.length ≤ W.length + 1 → Q (.ref t) H'
theorem len_law_next {vs : List V} {H : Hp} {Q : VK} {E : XK} (h : sp_law_next K A vs H Q E) : vs.length = 4 := by
  obtain ⟨a, p, ls, lw, xs, ys, S, W, rfl, _⟩ := h
  rfl
theorem ok_law_next (T : Txt K mg A D) : FnOk P w K mg base CX0 16 A.law_next D.law_next ["dice", "disk", "sure", "waiting"] (sp_law_next K A) := by
  have G_law_roll : FnOk P w K mg base CX0 1 A.law_roll D.law_roll ["dice", "most"] (sp_law_roll K) := ok_law_roll T
  have G_law_block_drawn : FnOk P w K mg base CX0 3 A.law_block_drawn D.law_block_drawn ["dice"] (sp_law_block_drawn K A) := ok_law_block_drawn T
  have G_Disk_put : FnOk P w K mg base CX0 12 A.Disk_put D.Disk_put ["self", "place", "block"] (sp_Disk_put K A) := ok_Disk_put T
  have G_Disk_synced : FnOk P w K mg base CX0 12 A.Disk_synced D.Disk_synced ["self"] (sp_Disk_synced K A) := ok_Disk_synced T
  have G_Disk_fallen : FnOk P w K mg base CX0 12 A.Disk_fallen D.Disk_fallen ["self", "kept"] (sp_Disk_fallen K A) := ok_Disk_fallen T
  refine T.F_law_next.ok sc_law_next (fun vs H Q E h => len_law_next h) (fun cdv A0 outer s H vs Q E hr h => ?_)
  refine ⟨_, (pss_cons (ps_set (i := 4) sc_law_next.nd rfl (Or.inr rfl) (pe_call G_law_roll (hr.mono (by decide)) rfl T.g_law_roll T.F_law_roll.kp T.b_law_roll .nil pass0 (pa_cons (pv 0) (pa_cons pe_int pa_nil))))
  (pss_cons (ps_if (pt_cmpR op_lt (pv 4) pe_int (nomark _)) (pss_cons (ps_par (i := 5) (j := 6) (by rfl) sc_law_next.nd rfl rfl (by decide) rfl rfl (pa_cons (pe_call G_law_roll (hr.mono (by decide)) rfl T.g_law_roll T.F_law_roll.kp T.b_law_roll .nil pass0 (pa_cons (pv 0) (pa_cons (pe_callB call_len (by rfl) T.b_len (by decide +kernel) (pa_cons (pv 2) pa_nil)) pa_nil))) (pa_cons (pe_call G_law_block_drawn (hr.mono (by decide)) rfl T.g_law_block_drawn T.F_law_block_drawn.kp T.b_law_block_drawn .nil pass0 (pa_cons (pv 0) pa_nil)) pa_nil)) (by rfl))
  (pss_one (ps_ret (pe_tup (pa_cons (pe_meth (pv 1) T.cl_Disk T.m_Disk_put G_Disk_put (hr.mono (by decide)) T.b_Disk_put .nil pass0 (pa_cons (pv 5) (pa_cons (pv 6) pa_nil))) (pa_cons (pv 2) (pa_cons (pe_op op_cat (pv 3) (pe_lst (pa_cons (pe_tup (pa_cons (pv 5) (pa_cons (pv 6) pa_nil))) pa_nil))) pa_nil))))))) pss_nil)
  (pss_cons (ps_setLc (i := 7) (own := [("at", 8)]) (g := gName 8)  rfl sc_law_next.nd rfl rfl (sw_true rfl rfl rfl (by decide +kernel)) (pi_range1 rfl T.b_range (pa_cons (pe_callB call_len (by rfl) T.b_len (by decide +kernel) (pa_cons (pv 3) pa_nil)) pa_nil)) (blkOk_by (own := [("at", 8)]) (N := N_law_next) (sc := defScope s_law_next) (by decide +kernel)) (fun _ _ _ _ _ => by exact pg_name (i := 8) sc_law_next.nd rfl (Or.inl rfl)) (fun _ _ _ _ _ => by exact (pts_one (PW.pt (pw_or (pt_cmpR op_eq (pv 4) pe_int (nomark _)) (pw_or1 (pt_cmpR op_eq (pe_call G_law_roll (hr.mono (by decide)) rfl T.g_law_roll T.F_law_roll.kp T.b_law_roll .nil pass0 (pa_cons (pv 0) (pa_cons pe_int pa_nil))) pe_int (nomark _))))))) (fun _ _ _ _ _ => by exact (pv 8)))
  (pss_cons (ps_set (i := 9) sc_law_next.nd rfl (Or.inl rfl) (pe_callTy call_list_of (by rfl) T.b_list (by decide +kernel) (pa_cons (pv 2) pa_nil)))
  (pss_cons (ps_for PassesOwn.never rfl (pi_list (pv 7)) (pg_name (i := 8) sc_law_next.nd rfl (Or.inl rfl)) (pss_one (ps_asg (pe_ix ix_tup (pe_ix ix_list (pv 3) (pv 8) (fun _ _ => rfl)) pe_int (fun _ _ => rfl)) (pg_sub (pv 9) (pe_ix ix_tup (pe_ix ix_list (pv 3) (pv 8) (fun _ _ => rfl)) pe_int (fun _ _ => rfl)) set_list))))
  (pss_one (ps_ret (pe_tup (pa_cons (pe_ifExp (pt_cmpR op_eq (pv 4) pe_int (nomark _)) (pe_meth0 (pv 1) T.cl_Disk T.m_Disk_synced G_Disk_synced (hr.mono (by decide)) T.b_Disk_synced .nil pass0 ) (pe_meth (pv 1) T.cl_Disk T.m_Disk_fallen G_Disk_fallen (hr.mono (by decide)) T.b_Disk_fallen .nil pass0 (pa_cons (pe_callTy call_tuple_of (by rfl) T.b_tuple (by decide +kernel) (pa_cons (pv 7) pa_nil)) pa_nil))) (pa_cons (pv 9) (pa_cons (pe_lst pa_nil) pa_nil))))))))))), ?_⟩
  obtain ⟨a, p, ls, lw, xs, ys, S, W, rfl, T0, hwl, k⟩ := h
  have ok := T0.dk.ok
  have hhi := ok.hi
  have hlo := ok.lo
  have hxl : xs.length = S.length := T0.rs.len
  have hyl : ys.length = W.length := by rw [T0.rb.len, List.length_map]
  refine q_asgC (ea_cons (ev_var rfl) (ea_cons ev_c ea_nil)) fun H1 e1 => ⟨a, 8, rfl, T0.dice.ex e1, by decide, by decide, fun r H2 r0 r1 hb2 hd2 => ?_⟩
  have b2 : Bt a H H2 := (Bt.of e1).trans hb2
  have T2 := T0.bt b2 hd2
  refine q_when (b := decide (r < 5)) (et_test (ev_op (ev_var rfl) ev_c rv_I0)) (fun _ H3 e3 => ?_) (fun _ H3 e3 => ?_)
  · -- a put
    have T3 := T2.ex e3
    refine q_par (n_cons (c_call (ea_cons (ev_var rfl) (ea_cons (ev_is (ev_cb (ea_cons (ev_var rfl) ea_nil) (rc_lenL (sq_of T3.hs))) (by rw [hxl])) ea_nil)) fun H4 e4 => ⟨a, (S.length : Int), rfl, T3.dice.ex e4, by omega, by omega, fun r2 H5 s0 s1 hb5 hd5 => ?_⟩))
    have b5 : Bt a H3 H5 := (Bt.of e4).trans hb5
    have T5 := T3.bt b5 hd5
    refine n_cons (c_call (ea_cons (ev_var rfl) ea_nil) fun H6 e6 => ⟨a, rfl, T5.dice.ex e6, fun x d H7 hm hx hb7 hd7 => n_nil ⟨_, _, rfl, ?_⟩⟩)
    have b7 : Bt a H5 H7 := (Bt.of e6).trans hb7
    have T7 := T5.bt b7 hd7
    obtain ⟨n, rfl⟩ : ∃ n : Nat, r2 = (n : Int) := ⟨r2.toNat, by omega⟩
    obtain ⟨⟨dx, sa, sb, hp, _, _⟩, _⟩ := id T7.dk
    refine n_ret (n_tup (n_cons (c_meth (vs := [.int (n : Int), x]) (ev_var rfl) hp (look_no _ _ (by decide +kernel) (by decide +kernel)) (fun _ _ => ea_cons (ev_var rfl) (ea_cons (ev_var rfl) ea_nil)) fun H8 e8 => ?_)))
    refine ⟨p, S, W, n, x, d, rfl, T7.dk.ex e8, by omega, hwl, hm, hx.ex e8, fun q H9 e9 dq => ?_⟩
    have e79 := e8.trans e9
    have T9 := T7.ex e79
    refine n_cons (n_var rfl (n_cons (n_op (n_var rfl ?_))))
    refine l_lst (K := K) (ds := [prD (n, d)]) (eda_cons (ed_tup (eda_cons (ed_ev (ev_var rfl) (.int _)) (eda_cons (ed_ev (ev_var rfl) (hx.ex e79)) eda_nil)) (by simp)) eda_nil) (by simp) fun b zs HA hbA eA hzs rz => ?_
    have TA := T9.ex eA
    refine ⟨lw, b, ys, zs, rfl, rfl, TA.hw, hzs, by rw [hyl, rz.len]; exact sz_of (by simp; omega), fun lw' hlw' => n_nil ⟨sz_of (by simp), fun t ht => ?_⟩⟩
    have eB : Ex HA (upd HA lw' (.lst (ys ++ zs))) := Ex.new hlw'
    have eC : Ex (upd HA lw' (.lst (ys ++ zs))) (upd (upd HA lw' (.lst (ys ++ zs))) t (.tup [.ref q, .ref ls, .ref lw'])) := Ex.new ht
    have eAC := eB.trans eC
    have nea : lw' ≠ a := TA.dice.ne hlw'
    have bA : Bt a H HA := (((((b2.trans (Bt.of e3)).trans b5).trans b7).trans (Bt.of e79)).trans (Bt.of eA))
    have TC := TA.ex eAC
    have okW : DOk S (W ++ [(n, d)]) := dq.ok
    refine k t q ls lw' xs (ys ++ zs) S (W ++ [(n, d)]) _ (bA.trans (Bt.of eAC)) (st_of upd_same) ⟨TC.dice, dq.ex (eA.trans eAC), TC.ns, TC.hs, TC.rs, nea, eC _ _ upd_same, ?_⟩ (.inl rfl) (bA.free nea hlw') (by rw [List.length_append]; simp)
    rw [List.map_append]
    exact TC.rb.app (rz.ex eAC)
  · -- a sync or a fall
    have T3 := T2.ex e3
    have b4 : Bt a H H3 := b2.trans (Bt.of e3)
    have T4 := T3
    refine q_kept (Pp := r = 5) (n := ys.length) T3.dice (by omega) (ev_cb (ea_cons (ev_var rfl) ea_nil) (rc_lenL (sq_of T3.hw))) (fun _ => rfl) (fun _ => rfl) (fun i H5 hi b5 d5 Q5 k5 => ?_) (fun Dl idx H5 hDl b5 d5 hidx hasc hlt hlen hP => ?_)
    · skip
      have T5 := T4.bt b5 d5
      refine et_test (ev_op (ev_var rfl) ev_c (rv_eq rfl)) H5 (Ex.refl _) _ fun H6 e6 => ?_
      by_cases c : V.int r = V.int 5
      · rw [decide_eq_true c]
        exact k5 true H6 (Bt.of e6) (d5.ex e6) fun _ => rfl
      · rw [decide_eq_false c]
        refine c_call (ea_cons (ev_var rfl) (ea_cons ev_c ea_nil)) fun H7 e7 => ⟨a, 2, rfl, (d5.ex e6).ex e7, by decide, by decide, fun r3 H8 t0 t1 hb8 hd8 => ?_⟩
        refine ⟨rfl, _, rfl, ?_⟩
        exact k5 _ H8 ((Bt.of (e6.trans e7)).trans hb8) hd8 fun z => absurd (congrArg V.int z) c
    · rw [hyl] at hlt hlen hP
      have T5 := T4.bt b5 d5
      have nD : Dl ≠ a := T4.dice.ne hDl
      have b05 := b4.trans b5
      refine q_asgL (D := { nx := fun x H' => Q V.non H', rt := Q }) (el_list (ev_var rfl) (sq_of T5.hs)) fun l H6 hl e6 h6 => ?_
      have T6 := T5.ex e6
      have hkl : (vints idx).length = idx.length := by unfold vints; rw [List.length_map]
      refine q_forL (ev_var rfl) (sq_of (e6 _ _ hidx)) (fun i σ' H' => ∃ zs v8, σ' = [some (.ref a), some (.ref p), some (.ref ls), some (.ref lw), some (.int r), none, none, some (.ref Dl), v8, some (.ref l)] ∧ Ex H5 H' ∧ H' l = some (.lst zs) ∧ RpAll K H' zs (rd S (pickW W (idx.take i)))) (fun H7 e7 => ?_) (fun i σ' H' _ ⟨_, _, _, e, _⟩ => sq_of (e _ _ hidx)) (fun i z σ' H' hz g => ?_) (fun σ' H' g => ?_)
      · exact ⟨xs, _, rfl, e6.trans e7, e7 _ _ h6, T5.rs.ex (e6.trans e7)⟩
      · obtain ⟨zs, v8, rfl, e, hzs, rz⟩ := g
        obtain ⟨n, hn, rfl⟩ : ∃ n, idx[i]? = some n ∧ V.int (n : Nat) = z := by
          unfold vints at hz
          rw [List.getElem?_map] at hz
          cases g : idx[i]? with
          | none => rw [g] at hz; cases hz
          | some n => rw [g] at hz; exact ⟨n, rfl, Option.some.inj hz⟩
        have hnW : n < W.length := hlt n (List.mem_of_getElem? hn)
        have hny : n < ys.length := by rw [hyl]; exact hnW
        have TE := T5.ex e
        have hyn : ys[n]? = some ys[n] := List.getElem?_eq_getElem hny
        obtain ⟨d, hd, hrd⟩ := RpAll.get _ _ _ _ TE.rb hyn
        rw [List.getElem?_map, List.getElem?_eq_getElem hnW] at hd
        have hd' := Option.some.inj hd
        subst hd'
        have hW : W.getD n (0, .non) = W[n] := gd_some (List.getElem?_eq_getElem hnW)
        obtain ⟨t, v, hyt, ht, hv⟩ := hrd.pairI
        rw [hyt] at hyn
        have hix : atI ys (n : Int) = some (.ref t) := by
          unfold atI
          rw [ixN_nat hny]
          exact hyn
        have hlen : zs.length = S.length := rz.len.trans (rd_len _ _)
        refine s_setL (j := W[n].1) hzs (ev_op (ev_op (ev_var rfl) (ev_var rfl) (rv_ixL (sq_of TE.hw) hix)) ev_c (rv_ixT ht rfl)) (ev_var rfl) (ev_op (ev_op (ev_var rfl) (ev_var rfl) (rv_ixL (sq_of TE.hw) hix)) ev_c (rv_ixT ht rfl)) (by rw [hlen]; exact (ok.bw _ (List.getElem_mem hnW)).1) fun H7 e7 => ?_
        have h7 := e7 _ _ hzs
        refine ⟨_, _, rfl, Ex.mut (e.trans e7) hl, upd_same, ?_⟩
        rw [pick_take hn, hW]
        exact RpAll.setI _ ((rz.ex e7).exL (ExL.upd h7)) ((hv.ex e7).exL (ExL.upd h7))
      · obtain ⟨zs, v8, rfl, e, hzs, rz⟩ := g
        rw [hkl, List.take_length] at rz
        have TE := T5.ex e
        obtain ⟨⟨dx, sa, sb, hp, _, _⟩, _⟩ := id TE.dk
        have nel : l ≠ a := T5.dice.ne hl
        have hl0 : H l = none := b05.free nel hl
        -- what the disk becomes
        have fin : ∀ q H7, Ex H' H7 → DiskAt K A.Disk H7 q (rd S (pickW W idx)) [] →
            tCons (tVar 9) (tCons (tLst tNil) tNil) [some (.ref a), some (.ref p), some (.ref ls), some (.ref lw), some (.int r), none, none, some (.ref Dl), v8, some (.ref l)] H7 (fun vs H8 => (V.ref q :: vs).length ≤ sizeLine ∧ ∀ t, H8 t = none → Q (.ref t) (upd H8 t (.tup (V.ref q :: vs)))) := fun q H7 e7 dq => by
          refine n_cons (n_var rfl (n_cons ?_))
          refine l_lst (K := K) (ds := []) eda_nil (by simp) fun lw' zs' H8 hlw' e8 hz8 rz8 => n_nil ⟨sz_of (by simp), fun t ht => ?_⟩
          have eT : Ex H8 (upd H8 t (.tup [.ref q, .ref l, .ref lw'])) := Ex.new ht
          have e78 := e7.trans e8
          have T8 := (TE.ex e78).ex eT
          have nea : lw' ≠ a := (TE.ex e7).dice.ne hlw'
          have b7 : Bt a H H7 := (b05.trans (Bt.of e)).trans (Bt.of e7)
          refine k t q l lw' zs zs' (rd S (pickW W idx)) [] _ ((b7.trans (Bt.of e8)).trans (Bt.of eT)) (st_of upd_same) ⟨T8.dice, dq.ex (e8.trans eT), nel, eT _ _ (e78 _ _ hzs), rz.ex (e78.trans eT), nea, eT _ _ hz8, rz8.ex eT⟩ (.inr hl0) (b7.free nea hlw') (Nat.zero_le _)
        refine n_ret (n_tup (n_cons (n_if (b := decide (V.int r = V.int 5)) (et_test (ev_op (ev_var rfl) ev_c (rv_eq rfl))) (fun hc H7 e7 => ?_) (fun hc H7 e7 => ?_))))
        · have hr5 : r = 5 := V.int.inj (of_decide_eq_true hc)
          have hidx' := hP hr5
          refine c_meth (vs := []) (ev_var rfl) (e7 _ _ hp) (look_no _ _ (by decide +kernel) (by decide +kernel)) (fun _ _ => ea_nil) fun H8 e8 => ?_
          refine ⟨p, S, W, rfl, TE.dk.ex (e7.trans e8), fun q H9 e9 dq => fin q H9 ((e7.trans e8).trans e9) ?_⟩
          rw [hidx', pick_range]
          exact dq
        · refine c_methD (K := K) (d := idxD idx) (ev_var rfl) (e7 _ _ hp) (look_no _ _ (by decide +kernel) (by decide +kernel)) (fun H8 e8 => ed_tupOf (ev_var rfl) ((e.trans (e7.trans e8)) _ _ hidx) (rp_maps idx fun i _ => .int _)) fun v H8 e8 hv => ?_
          refine ⟨p, S, W, v, idx, rfl, TE.dk.ex (e7.trans e8), hv, by omega, hlt, hasc, fun q H9 e9 dq => fin q H9 ((e7.trans e8).trans e9) dq⟩
end
end K0

namespace K0
open PySem L2 Evl
section
variable {K : PySem.W.Frag} {σ : L2.St} {H H' : Hp} {ta tb te tx tn : TE} {t u : TT} {tr : TA} {Q : VK} {D : Ends} {tz : TS} {g : TG}
theorem q_asgG (h : te σ H fun v H1 => g v σ H1 fun σ2 H2 => tz D σ2 H2) : tSeq (tAsg te g) tz D σ H := h
/-- x, y = [e for j in range(1 + roll)], []: each e drawn -/
theorem q_parDraws {vs : List Nat} {j i1 i2 : Nat} {a : Addr} {m : Int} {E : XK} {tv : TE} {R : V → Hp → Prop} (hR : ∀ v H H', ExL (hid (some a) H) (hid (some a) H') → R v H → R v H') (hw : ∀ x, wipe ((wipe σ vs).set j (some x)) vs = wipe σ vs)
    (hv : Ev tv σ H (.ref a)) (hd : DiceAt H a) (hm : 0 < m) (hm2 : m ≤ 500)
    (turn : ∀ (i : Nat) H', Bt a H H' → DiceAt H' a → ∀ Q : VK, (∀ x H'', Bt a H' H'' → DiceAt H'' a → R x H'' → Q x H'') → te ((wipe σ vs).set j (some (.int ((0 : Int) + (i : Int))))) H' Q)
    (k : ∀ Dl xs l H', H Dl = none → H l = none → Dl ≠ l → Bt a H H' → DiceAt H' a → H' Dl = some (.lst xs) → H' l = some (.lst []) → 1 ≤ xs.length → (xs.length : Int) ≤ m → (∀ x ∈ xs, R x H') → tz D ((σ.set i1 (some (.ref Dl))).set i2 (some (.ref l))) H') :
    tSeq (tPar i1 i2 (tCons (tLc (iRng1 (tCons (tOp (rI0 fun i j => V.int (i + j)) (tC (.int 1)) (tCall (sp_law_roll K) [] E (tCons tv (tCons (tC (.int m)) tNil)))) tNil)) (gName j) tYes te vs) (tCons (tLst tNil) tNil))) tz D σ H := by
  refine q_par (n_cons ?_)
  unfold tLc
  refine n_rng1 (n_cons (n_op ?_))
  show tCall (sp_law_roll K) [] E (tCons tv (tCons (tC (.int m)) tNil)) σ H _
  refine c_call (ea_cons hv (ea_cons ev_c ea_nil)) fun H1 e1 => ?_
  refine ⟨a, m, rfl, hd.ex e1, hm, by omega, fun r H2 r0 r1 hb2 hd2 => ?_⟩
  have b2 : Bt a H H2 := (Bt.of e1).trans hb2
  refine ⟨1, r, rfl, rfl, n_nil ⟨1 + r, rfl, by omega, by omega, ?_⟩⟩
  refine lc_draws (te := te) (vs := vs) (σ := σ) (j := j) (a := a) (n := (1 + r).toNat) (R := R) (Q := fun v H1 => tCons (tLst tNil) tNil σ H1 fun vs H2 => ∃ v' w', v :: vs = [v', w'] ∧ tz D ((σ.set i1 (some v')).set i2 (some w')) H2) hR hd2 (by omega) hw (fun i H' _ b d Q q => turn i H' (b2.trans b) d Q q) (fun Dl xs H' hDl b d h1 h2 h3 => ?_)
  refine n_cons ⟨sz_of (by simp), fun l hl => n_nil ⟨_, _, rfl, ?_⟩⟩
  have nDl : Dl ≠ a := hd2.ne hDl
  have nl : l ≠ a := d.ne hl
  have b02 := b2.trans b
  have eL : Ex H' (upd H' l (.lst [])) := Ex.new hl
  have nDll : Dl ≠ l := ne_of_none h1 hl
  exact k Dl xs l _ (b2.free nDl hDl) (b02.free nl hl) nDll (b02.trans (Bt.of eL)) (d.ex eL) (eL _ _ h1) upd_same (by omega) (by omega) fun x hx => hR x _ _ (ExL.of (hid_ex eL)) (h3 x hx)
/-- x, y = Disk(tuple(xs)), [] -/
theorem q_parDisk {A : Ad} {E : XK} {i1 i2 : Nat} {S : List K0.D} (h : EvD K te σ H (.tup S)) (h1 : 1 ≤ S.length) (h2 : S.length ≤ 200) (hb : ∀ d ∈ S, d ∈ menu)
    (k : ∀ q l H', Ex H H' → H l = none → DiskAt K A.Disk H' q S [] → H' l = some (.lst []) → tz D ((σ.set i1 (some (.ref q))).set i2 (some (.ref l))) H') :
    tSeq (tPar i1 i2 (tCons (tMake A.Disk (sp_Disk_init K A) [] E (tCons te tNil)) (tCons (tLst tNil) tNil))) tz D σ H := by
  refine q_par (n_cons (c_makeD h fun y H1 e1 hy q dx hq hdx hne => ?_))
  refine ⟨q, dx, y, S, rfl, upd_same, hy.ex fun c o hc => ?_, h1, h2, hb, fun u H2 kp at_ hu => ⟨rfl, ?_⟩⟩
  · rw [upd_ne (ne_of_none hc hq), upd_ne (ne_of_none hc hdx)]
    exact hc
  · obtain ⟨e2, dk⟩ := new_disk hq hdx hy h1 h2 hb kp at_ hu
    refine n_cons ⟨sz_of (by simp), fun l hl => n_nil ⟨_, _, rfl, ?_⟩⟩
    exact k q l _ ((e1.trans e2).trans (Ex.new hl)) (fresh_back (e1.trans e2) hl) (dk.ex (Ex.new hl)) upd_same
/-! ### disks as values -/
def EvK (K : PySem.W.Frag) (C : Addr) (te : TE) (σ : L2.St) (H : Hp) (S : List K0.D) (W : List (Nat × K0.D)) : Prop := ∀ H1, Ex H H1 → ∀ Q : VK, (∀ q H2, Ex H1 H2 → DiskAt K C H2 q S W → Q (.ref q) H2) → te σ H1 Q
section
variable {C p : Addr} {S S' : List K0.D} {W W' : List (Nat × K0.D)} {A : Ad} {E : XK} {m : Str} {sp : Sp}
theorem ek_ev (h : Ev te σ H (.ref p)) (d : DiskAt K C H p S W) : EvK K C te σ H S W := fun H1 e Q q => h H1 e Q fun H2 e2 => q p H2 e2 (d.ex (e.trans e2))
theorem ek_meth0 (h : EvK K C ta σ H S W) (l : ∀ x y : V, ([("_sure", x), ("_waiting", y)] : List (Str × V)).lookup m = none) (k : ∀ p H1, Ex H H1 → DiskAt K C H1 p S W → ∀ Q : VK, RetDisk K C S' W' H1 Q → sp [.ref p] H1 Q E) :
    EvK K C (tMeth C m sp [] E ta tNil) σ H S' W' := fun H1 e Q q => h H1 e _ fun p H2 e2 d => by
  obtain ⟨⟨dx, a, b, hp, _⟩, _⟩ := id d
  exact ⟨p, dx, _, rfl, hp, l _ _, k p H2 (e.trans e2) d Q fun r H3 e3 d3 => q r H3 (e2.trans e3) d3⟩
theorem ek_methA {ds : List K0.D} (h : EvK K C ta σ H S W) (l : ∀ x y : V, ([("_sure", x), ("_waiting", y)] : List (Str × V)).lookup m = none) (ha : EvDA K tr σ H ds) (k : ∀ p vs H1, Ex H H1 → DiskAt K C H1 p S W → RpAll K H1 vs ds → ∀ Q : VK, RetDisk K C S' W' H1 Q → sp (.ref p :: vs) H1 Q E) :
    EvK K C (tMeth C m sp [] E ta tr) σ H S' W' := fun H1 e Q q => h H1 e _ fun p H2 e2 d => by
  obtain ⟨⟨dx, a, b, hp, _⟩, _⟩ := id d
  refine ⟨p, dx, _, rfl, hp, l _ _, ha H2 (e.trans e2) _ fun vs H3 e3 r => ?_⟩
  show sp (.ref p :: (vs ++ [])) H3 Q E
  rw [List.append_nil]
  exact k p vs H3 ((e.trans e2).trans e3) (d.ex e3) r Q fun r H4 e4 d4 => q r H4 ((e2.trans e3).trans e4) d4
/-- a method of a disk with data as arguments that gives data -/
theorem ek_dataA {ds : List K0.D} {d' : K0.D} (h : EvK K C ta σ H S W) (l : ∀ x y : V, ([("_sure", x), ("_waiting", y)] : List (Str × V)).lookup m = none) (ha : EvDA K tr σ H ds) (k : ∀ p vs H1, Ex H H1 → DiskAt K C H1 p S W → RpAll K H1 vs ds → ∀ Q : VK, RetR K d' H1 Q → sp (.ref p :: vs) H1 Q E) :
    EvD K (tMeth C m sp [] E ta tr) σ H d' := fun H1 e Q q => h H1 e _ fun p H2 e2 d => by
  obtain ⟨⟨dx, a, b, hp, _⟩, _⟩ := id d
  refine ⟨p, dx, _, rfl, hp, l _ _, ha H2 (e.trans e2) _ fun vs H3 e3 r => ?_⟩
  show sp (.ref p :: (vs ++ [])) H3 Q E
  rw [List.append_nil]
  exact k p vs H3 ((e.trans e2).trans e3) (d.ex e3) r Q fun v H4 e4 d4 => q v H4 ((e2.trans e3).trans e4) d4
theorem ek_prop {d' : K0.D} (h : EvK K C ta σ H S W) (k : ∀ p H1, Ex H H1 → DiskAt K C H1 p S W → ∀ Q : VK, RetR K d' H1 Q → sp [.ref p] H1 Q E) : EvD K (tProp C sp [] E ta) σ H d' := fun H1 e Q q => h H1 e _ fun p H2 e2 d => by
  obtain ⟨⟨dx, a, b, hp, _⟩, _⟩ := id d
  exact ⟨p, dx, _, rfl, hp, k p H2 (e.trans e2) d Q fun v H4 e4 d4 => q v H4 (e2.trans e4) d4⟩
/-- == and != of disks -/
theorem ev_eqO (h1 : EvK K A.Disk ta σ H S W) (h2 : EvK K A.Disk tb σ H S' W') : Ev (tOp (rEqO K A.Disk (sp_Disk_eq K A) E) ta tb) σ H (.bl (eqD S S' W W')) := fun H1 e Q q =>
  h1 H1 e _ fun p H2 e2 d => h2 H2 (e.trans e2) _ fun r H3 e3 d' => by
    obtain ⟨⟨dx, a, b, hp, _⟩, _⟩ := id (d.ex e3)
    obtain ⟨⟨dy, a', b', hr, _⟩, _⟩ := id d'
    exact ⟨p, dx, _, rfl, hp, .inr (.inl ⟨r, dy, _, rfl, hr⟩), p, S, W, .ref r, _, rfl, d.ex e3, .inl ⟨r, S', W', rfl, d', rfl⟩, fun H4 e4 => ⟨_, rfl, q H4 ((e2.trans e3).trans e4)⟩⟩
theorem ev_neO (h1 : EvK K A.Disk ta σ H S W) (h2 : EvK K A.Disk tb σ H S' W') : Ev (tOp (rNeO K A.Disk (sp_Disk_eq K A) E) ta tb) σ H (.bl (!eqD S S' W W')) := fun H1 e Q q =>
  h1 H1 e _ fun p H2 e2 d => h2 H2 (e.trans e2) _ fun r H3 e3 d' => by
    obtain ⟨⟨dx, a, b, hp, _⟩, _⟩ := id (d.ex e3)
    obtain ⟨⟨dy, a', b', hr, _⟩, _⟩ := id d'
    exact ⟨p, dx, _, rfl, hp, .inr (.inl ⟨r, dy, _, rfl, hr⟩), p, S, W, .ref r, _, rfl, d.ex e3, .inl ⟨r, S', W', rfl, d', rfl⟩, fun H4 e4 => ⟨_, rfl, q H4 ((e2.trans e3).trans e4)⟩⟩
theorem ev_neOD {ds : List K0.D} (h1 : EvK K A.Disk ta σ H S W) (h2 : EvD K tb σ H (.tup ds)) : Ev (tOp (rNeO K A.Disk (sp_Disk_eq K A) E) ta tb) σ H (.bl true) := fun H1 e Q q =>
  h1 H1 e _ fun p H2 e2 d => h2 H2 (e.trans e2) _ fun v H3 e3 hv => by
    obtain ⟨⟨dx, a, b, hp, _⟩, _⟩ := id (d.ex e3)
    obtain ⟨r, xs, rfl, hr, _⟩ := hv.tupI
    exact ⟨p, dx, _, rfl, hp, .inr (.inr ⟨r, xs, rfl, hr⟩), p, S, W, .ref r, false, rfl, d.ex e3, .inr ⟨.inr ⟨r, xs, rfl, hr⟩, rfl⟩, fun H4 e4 => ⟨_, rfl, q H4 ((e2.trans e3).trans e4)⟩⟩
theorem ev_neON (h1 : EvK K A.Disk ta σ H S W) : Ev (tOp (rNeO K A.Disk (sp_Disk_eq K A) E) ta (tC .non)) σ H (.bl true) := fun H1 e Q q =>
  h1 H1 e _ fun p H2 e2 d => by
    obtain ⟨⟨dx, a, b, hp, _⟩, _⟩ := id d
    exact ⟨p, dx, _, rfl, hp, .inl rfl, p, S, W, .non, false, rfl, d, .inr ⟨.inl rfl, rfl⟩, fun H4 e4 => ⟨_, rfl, q H4 (e2.trans e4)⟩⟩
end
end
theorem eqD_self {S : List D} {W : List (Nat × D)} (h : DOk S W) : eqD S S W W = true := by
  unfold eqD
  rw [eqv_self _ (fine_c h.fs), eqv_self _ (fine_c h.fw)]
  rfl
theorem look_m {m : Str} (h1 : (m == ("_sure" : Str)) = false) (h2 : (m == ("_waiting" : Str)) = false) : ∀ x y : V, ([("_sure", x), ("_waiting", y)] : List (Str × V)).lookup m = none := fun x y => look_no x y h1 h2
/-! ### what was seen -/
section
variable {K : PySem.W.Frag} {C a l : Addr} {H H' : Hp}
def Row (K : PySem.W.Frag) (C a l : Addr) (H : Hp) (v : V) : Prop := ∃ t p ls lw xs ys S W, v = .ref t ∧ SqT K H t [.ref p, .ref ls, .ref lw] ∧ Tri K C a p ls lw xs ys S W H ∧ ls ≠ l ∧ lw ≠ l
theorem ExT.upd {xs ys : List V} (h : H l = some (.lst xs)) : ExT H (L2.upd H l (.lst ys)) := fun b u hb n => by
  by_cases c : b = l
  · subst c
    rw [h] at hb
    exact absurd (Option.some.inj hb).symm (n xs)
  · rw [upd_ne c]
    exact hb
theorem Tri.app {p ls lw : Addr} {xs ys zs ws : List V} {S : List D} {W : List (Nat × D)} (t : Tri K C a p ls lw xs ys S W H) (h : H l = some (.lst zs)) (na : a ≠ l) (n1 : ls ≠ l) (n2 : lw ≠ l) : Tri K C a p ls lw xs ys S W (upd H l (.lst ws)) := by
  have e : ExT H (upd H l (.lst ws)) := ExT.upd h
  obtain ⟨x, y, z, hd⟩ := t.dice
  exact ⟨⟨x, y, z, by rw [upd_ne na]; exact hd⟩, t.dk.exT e, t.ns, by rw [upd_ne n1]; exact t.hs, t.rs.exT (menu_clean t.dk.ok.bs) e, t.nw, by rw [upd_ne n2]; exact t.hw, t.rb.exT (pr_clean fun q hq => (t.dk.ok.bw q hq).2) e⟩
theorem Row.bt {v : V} (r : Row K C a l H v) (b : Bt a H H') (d : DiceAt H' a) : Row K C a l H' v := by
  obtain ⟨t, p, ls, lw, xs, ys, S, W, rfl, h1, h2, n1, n2⟩ := r
  exact ⟨t, p, ls, lw, xs, ys, S, W, rfl, (b.exT h2.dice).sqT h1, h2.bt b d, n1, n2⟩
theorem Row.app {v : V} {zs ws : List V} (r : Row K C a l H v) (h : H l = some (.lst zs)) (na : a ≠ l) : Row K C a l (upd H l (.lst ws)) v := by
  obtain ⟨t, p, ls, lw, xs, ys, S, W, rfl, h1, h2, n1, n2⟩ := r
  exact ⟨t, p, ls, lw, xs, ys, S, W, rfl, (ExT.upd h).sqT h1, h2.app h na n1 n2, n1, n2⟩
end
theorem rp_lists {K : PySem.W.Frag} {H : Hp} : ∀ {xs : List V}, (∀ x ∈ xs, ∃ d, d ∈ menu ∧ Rp K H x d) → ∃ S, RpAll K H xs S ∧ ∀ d ∈ S, d ∈ menu
  | [], _ => ⟨[], .nil, fun d h => by cases h⟩
  | x :: xs, h => by
    obtain ⟨d, hd, hr⟩ := h x (List.mem_cons_self ..)
    obtain ⟨S, h1, h2⟩ := rp_lists fun y hy => h y (List.mem_cons_of_mem _ hy)
    refine ⟨d :: S, .cons hr h1, fun e he => ?_⟩
    rcases List.mem_cons.mp he with rfl | he
    · exact hd
    · exact h2 e he
end K0

namespace K0
open PySem L2 Evl
section
variable {P : Program} {w : World} {K : PySem.W.Frag} {mg : Str → Option Value} {base : Heap} {A : Ad} {D : Fd}
def sp_law_right (K : PySem.W.Frag) : Sp := fun vs H Q _ => ∃ a, vs = [.ref a] ∧ DiceAt H a ∧ ∀ H', Bt a H H' → DiceAt H' a → Q (.bl true) H'
theorem len_law_right {vs : List V} {H : Hp} {Q : VK} {E : XK} (h : sp_law_right K vs H Q E) : vs.length = 1 := by
  obtain ⟨a, rfl, _⟩ := h
  rfl
theorem ok_law_right (T : Txt K mg A D) : FnOk P w K mg base CX0 17 A.law_right D.law_right ["dice"] (sp_law_right K) := by
  have G_law_roll : FnOk P w K mg base CX0 1 A.law_roll D.law_roll ["dice", "most"] (sp_law_roll K) := ok_law_roll T
  have G_law_block_drawn : FnOk P w K mg base CX0 3 A.law_block_drawn D.law_block_drawn ["dice"] (sp_law_block_drawn K A) := ok_law_block_drawn T
  have G_law_is_right : FnOk P w K mg base CX0 10 A.law_is_right D.law_is_right ["disk", "sure", "waiting"] (sp_law_is_right K A) := ok_law_is_right T
  have G_law_next : FnOk P w K mg base CX0 16 A.law_next D.law_next ["dice", "disk", "sure", "waiting"] (sp_law_next K A) := ok_law_next T
  have G_Disk_init : FnOk P w K mg base CX0 7 A.Disk_init D.Disk_init ["self", "blocks"] (sp_Disk_init K A) := ok_Disk_init T
  have G_Disk_sure : FnOk P w K mg base CX0 1 A.Disk_sure D.Disk_sure ["self"] (sp_Disk_sure K A) := ok_Disk_sure T
  have G_Disk_synced : FnOk P w K mg base CX0 12 A.Disk_synced D.Disk_synced ["self"] (sp_Disk_synced K A) := ok_Disk_synced T
  have G_Disk_eq : FnOk P w K mg base CX0 1 A.Disk_eq D.Disk_eq ["self", "other"] (sp_Disk_eq K A) := ok_Disk_eq T
  obtain ⟨_, hp_Disk_sure⟩ := T.p_Disk_sure
  refine T.F_law_right.ok sc_law_right (fun vs H Q E h => len_law_right h) (fun cdv A0 outer s H vs Q E hr h => ?_)
  refine ⟨_, (pss_cons (ps_par (i := 1) (j := 2) (by rfl) sc_law_right.nd rfl rfl (by decide) rfl rfl (pa_cons (pe_lc (own := [("place", 3)]) (g := gName 3) (tt := tYes) rfl sc_law_right.nd (pi_range1 rfl T.b_range (pa_cons (pe_op op_add pe_int (pe_call G_law_roll (hr.mono (by decide)) rfl T.g_law_roll T.F_law_roll.kp T.b_law_roll .nil pass0 (pa_cons (pv 0) (pa_cons pe_int pa_nil)))) pa_nil)) (blkOk_by (own := [("place", 3)]) (N := N_law_right) (sc := defScope s_law_right) (by decide +kernel)) (fun _ _ _ _ _ => by exact pg_name (i := 3) sc_law_right.nd rfl (Or.inl rfl)) (fun _ _ _ _ _ => by exact pts_nil) (fun _ _ _ _ _ => by exact (pe_call G_law_block_drawn (hr.mono (by decide)) rfl T.g_law_block_drawn T.F_law_block_drawn.kp T.b_law_block_drawn .nil pass0 (pa_cons (pv 0) pa_nil)))) (pa_cons (pe_lst pa_nil) pa_nil)) (by rfl))
  (pss_cons (ps_par (i := 4) (j := 5) (by rfl) sc_law_right.nd rfl rfl (by decide) rfl rfl (pa_cons (pe_make T.mk_Disk G_Disk_init (hr.mono (by decide)) (by rfl) T.g_Disk T.b_Disk_init .nil pass0 (pa_cons (pe_callTy call_tuple_of (by rfl) T.b_tuple (by decide +kernel) (pa_cons (pv 1) pa_nil)) pa_nil)) (pa_cons (pe_lst pa_nil) pa_nil)) (by rfl))
  (pss_cons (ps_for PassesOwn.never rfl (pi_range1 rfl T.b_range (pa_cons pe_int pa_nil)) (pg_name (i := 6) sc_law_right.nd rfl (Or.inl rfl)) (pss_cons (ps_expr (pe_bm PySem.F.plainAttrs_list PySem.F.slot_list_append PySem.F.type_list_append mt_append (pv 5) (pa_cons (pe_tup (pa_cons (pv 4) (pa_cons (pv 1) (pa_cons (pv 2) pa_nil)))) pa_nil)))
  (pss_cons (ps_asg (pe_call G_law_next (hr.mono (by decide)) rfl T.g_law_next T.F_law_next.kp T.b_law_next .nil pass0 (pa_cons (pv 0) (pa_cons (pv 4) (pa_cons (pv 1) (pa_cons (pv 2) pa_nil))))) (pg_tup rfl (pgs_cons (pg_name (i := 4) sc_law_right.nd rfl (Or.inl rfl)) (pgs_cons (pg_name (i := 1) sc_law_right.nd rfl (Or.inl rfl)) (pgs_cons (pg_name (i := 2) sc_law_right.nd rfl (Or.inl rfl)) pgs_nil)))))
  (pss_one (ps_if (pt_not (pt_val (pe_call G_law_is_right (hr.mono (by decide)) rfl T.g_law_is_right T.F_law_is_right.kp T.b_law_is_right .nil pass0 (pa_cons (pv 4) (pa_cons (pv 1) (pa_cons (pv 2) pa_nil)))))) (pss_one (ps_ret pe_bl)) pss_nil)))))
  (pss_cons (ps_for PassesOwn.never rfl (pi_list (pv 5)) (pg_tup rfl (pgs_cons (pg_name (i := 7) sc_law_right.nd rfl (Or.inl rfl)) (pgs_cons (pg_name (i := 8) sc_law_right.nd rfl (Or.inl rfl)) (pgs_cons (pg_name (i := 9) sc_law_right.nd rfl (Or.inl rfl)) pgs_nil)))) (pss_one (ps_if (PW.pt (pw_or (pt_not (pt_val (pe_call G_law_is_right (hr.mono (by decide)) rfl T.g_law_is_right T.F_law_is_right.kp T.b_law_is_right .nil pass0 (pa_cons (pv 7) (pa_cons (pv 8) (pa_cons (pv 9) pa_nil)))))) (pw_or1 (pt_cmpR op_ne (pe_cmpR (op_eqO G_Disk_eq (hr.mono (by decide)) T.b_Disk_eq pass0 T.m_Disk_eq.at_ T.m_Disk_eq.fn T.fNoneType_Disk T.ftuple_Disk) (pv 7) (pv 4) (nomark _)) (pe_and (pe_cmpR (op_eqD hr.units) (pv 8) (pv 1) (nomark _)) (pe_one (pe_cmpR (op_eqD hr.units) (pv 9) (pv 2) (nomark _)))) (nomark _))))) (pss_one (ps_ret pe_bl)) pss_nil)))
  (pss_one (ps_ret (pe_and (pe_cmpR (op_neO G_Disk_eq (hr.mono (by decide)) T.b_Disk_eq pass0 T.m_Disk_eq.at_ T.ne_Disk T.ob_Disk.co T.m_Disk_eq.fn T.fNoneType_Disk T.ftuple_Disk) (pv 4) (pe_prop (pv 4) T.cl_Disk hp_Disk_sure G_Disk_sure (hr.mono (by decide)) T.b_Disk_sure .nil pass0 (by rfl)) (nomark _)) (pe_and (pe_cmpR (op_neO G_Disk_eq (hr.mono (by decide)) T.b_Disk_eq pass0 T.m_Disk_eq.at_ T.ne_Disk T.ob_Disk.co T.m_Disk_eq.fn T.fNoneType_Disk T.ftuple_Disk) (pv 4) pe_non (nomark _)) (pe_one (pe_cmpR (op_eqO G_Disk_eq (hr.mono (by decide)) T.b_Disk_eq pass0 T.m_Disk_eq.at_ T.m_Disk_eq.fn T.fNoneType_Disk T.ftuple_Disk) (pe_meth0 (pe_meth0 (pv 4) T.cl_Disk T.m_Disk_synced G_Disk_synced (hr.mono (by decide)) T.b_Disk_synced .nil pass0 ) T.cl_Disk T.m_Disk_synced G_Disk_synced (hr.mono (by decide)) T.b_Disk_synced .nil pass0 ) (pe_meth0 (pv 4) T.cl_Disk T.m_Disk_synced G_Disk_synced (hr.mono (by decide)) T.b_Disk_synced .nil pass0 ) (nomark _))))))))))), ?_⟩
  obtain ⟨a, rfl, ha, k⟩ := h
  refine q_parDraws (a := a) (R := fun v H => ∃ d, d ∈ menu ∧ Rp K (hid (some a) H) v d) (fun v H H' e ⟨d, hm, hr⟩ => ⟨d, hm, hr.exL e⟩) (fun _ => rfl) (ev_var rfl) ha (by decide) (by decide) (fun i H1 b1 d1 Q1 q1 => ?_) (fun ls xs lw H1 hls hlw nll b1 d1 h1 h2 l1 l2 hR => ?_)
  · refine c_call (ea_cons (ev_var rfl) ea_nil) fun H2 e2 => ⟨a, rfl, d1.ex e2, fun x d H3 hm hx hb hd => q1 x H3 ((Bt.of e2).trans hb) hd ⟨d, hm, hx.exT (fine_c (blk_fine hm)) (exT_hid hd.hidL)⟩⟩
  have nls : ls ≠ a := ha.ne hls
  have nlw : lw ≠ a := ha.ne hlw
  obtain ⟨S0, rS, mS⟩ := rp_lists (K := K) (H := H1) (xs := xs) fun x hx => by
    obtain ⟨d, hm, hr⟩ := hR x hx
    exact ⟨d, hm, hr.ex hid_le⟩
  have hSl : S0.length = xs.length := rS.len.symm
  refine q_parDisk (S := S0) (ed_tupOf (ev_var rfl) h1 rS) (by omega) (by omega) mS fun q0 l H2 e2 hl dq hl2 => ?_
  have nla : l ≠ a := d1.ne hl
  have nlls : ls ≠ l := ne_of_none h1 hl
  have nllw : lw ≠ l := ne_of_none h2 hl
  have TT : Tri K A.Disk a q0 ls lw xs [] S0 [] H2 := ⟨d1.ex e2, dq, nls, e2 _ _ h1, rS.ex e2, nlw, e2 _ _ h2, .nil⟩
  have b02 : Bt a H H2 := b1.trans (Bt.of e2)
  refine q_forR1 (n := 12) (ea_cons ev_c ea_nil) (by decide) (fun i σ' H' => ∃ p ls lw xs ys S W v6 rows, σ' = [some (.ref a), some (.ref ls), some (.ref lw), none, some (.ref p), some (.ref l), v6, none, none, none] ∧ Tri K A.Disk a p ls lw xs ys S W H' ∧ ls ≠ l ∧ lw ≠ l ∧ W.length ≤ i ∧ H' l = some (.lst rows) ∧ rows.length = i ∧ (∀ v ∈ rows, Row K A.Disk a l H' v) ∧ Bt a H H')
    (fun H3 e3 => ?_) (fun i σ' H' hi g => ?_) (fun σ' H' g => ?_)
  · exact ⟨q0, ls, lw, xs, [], S0, [], none, [], rfl, TT.ex e3, nlls, nllw, Nat.le_refl _, e3 _ _ hl2, rfl, (fun v hv => by cases hv), b02.trans (Bt.of e3)⟩
  · obtain ⟨p, ls, lw, xs, ys, S, W, v6, rows, rfl, T1, n1, n2, hW, hrows, hrl, hrw, b⟩ := g
    refine q_appU hrows (ev_var rfl) (eu_tup (ea_cons (ev_var rfl) (ea_cons (ev_var rfl) (ea_cons (ev_var rfl) ea_nil))) (by simp)) (by omega) fun t H3 ht e3 h3 => ?_
    have hr3 := e3 _ _ hrows
    have T3 := (T1.ex e3).app (ws := rows ++ [.ref t]) hr3 (Ne.symm nla) n1 n2
    have ntl : t ≠ l := (ne_of_none hrows ht).symm
    have b3 : Bt a H (upd H3 l (.lst (rows ++ [.ref t]))) := by
      have bb := b.trans (Bt.of e3)
      intro c u hc
      have := bb c u hc
      rw [hid_upd nla]
      have ncl : c ≠ l := fun z => by
        subst z
        have := hid_le _ _ hc
        rw [(b1.free nla hl)] at this
        cases this
      rw [upd_ne ncl]
      exact this
    have hrw3 : ∀ v ∈ rows ++ [.ref t], Row K A.Disk a l (upd H3 l (.lst (rows ++ [.ref t]))) v := fun v hv => by
      rcases List.mem_append.mp hv with hv | hv
      · exact ((hrw v hv).bt (Bt.of e3) (T1.dice.ex e3)).app hr3 (Ne.symm nla)
      · rw [List.mem_singleton.mp hv]
        exact ⟨t, p, ls, lw, xs, ys, S, W, rfl, st_of (by rw [upd_ne ntl]; exact h3), T3, n1, n2⟩
    refine q_asgG (c_call (ea_cons (ev_var rfl) (ea_cons (ev_var rfl) (ea_cons (ev_var rfl) (ea_cons (ev_var rfl) ea_nil)))) fun H4 e4 => ?_)
    refine ⟨a, p, ls, lw, xs, ys, S, W, rfl, T3.ex e4, by omega, fun t' q' ls' lw' xs' ys' S' W' H5 b5 ht' T5 hls' hlw' hW' => ?_⟩
    refine ⟨t', _, rfl, ht', rfl, _, _, rfl, _, _, rfl, _, _, rfl, rfl, ?_⟩
    have h4l : H4 l = some (.lst (rows ++ [.ref t])) := e4 _ _ upd_same
    have h5l : H5 l = some (.lst (rows ++ [.ref t])) := b5.at nla h4l
    have n1' : ls' ≠ l := by
      rcases hls' with rfl | h
      · exact n1
      · exact (ne_of_none h4l h).symm
    have n2' : lw' ≠ l := (ne_of_none h4l hlw').symm
    refine s_when (b := false) (et_is (et_not (et_B (ev_call (z := .bl true) (ea_cons (ev_var rfl) (ea_cons (ev_var rfl) (ea_cons (ev_var rfl) ea_nil))) fun H6 e6 Q6 q6 E6 => ⟨q', ls', lw', xs', ys', S', W', rfl, T5.dk.ex e6, e6 _ _ T5.hs, T5.rs.ex e6, e6 _ _ T5.hw, T5.rb.ex e6, q6⟩))) rfl) (fun z => by cases z) fun _ H6 e6 => ?_
    have b46 : Bt a (upd H3 l (.lst (rows ++ [.ref t]))) H6 := ((Bt.of e4).trans b5).trans (Bt.of e6)
    exact ⟨q', ls', lw', xs', ys', S', W', _, rows ++ [.ref t], rfl, T5.ex e6, n1', n2', by omega, e6 _ _ h5l, by rw [List.length_append, hrl]; rfl, fun v hv => (hrw3 v hv).bt b46 (T5.dice.ex e6), b3.trans b46⟩
  · obtain ⟨p, ls, lw, xs, ys, S, W, v6, rows, rfl, T1, n1, n2, hW, hrows, hrl, hrw, b⟩ := g
    have ok := T1.dk.ok
    refine q_forL (ev_var rfl) (sq_of hrows) (fun i σ' H2' => ∃ v7 v8 v9, σ' = [some (.ref a), some (.ref ls), some (.ref lw), none, some (.ref p), some (.ref l), v6, v7, v8, v9] ∧ Ex H' H2') (fun H3 e3 => ⟨none, none, none, rfl, e3⟩) (fun i σ' H2' _ ⟨_, _, _, _, e⟩ => sq_of (e _ _ hrows)) (fun i v σ' H2' hv g => ?_) (fun σ' H2' g => ?_)
    · obtain ⟨v7, v8, v9, rfl, e⟩ := g
      obtain ⟨t, p', ls', lw', xs', ys', S', W', rfl, ht, T', n1', n2'⟩ := hrw v (List.mem_of_getElem? hv)
      refine ⟨t, _, rfl, ex_t e ht, rfl, _, _, rfl, _, _, rfl, _, _, rfl, rfl, ?_⟩
      have TE := T1.ex e
      have TE' := T'.ex e
      have ok' := T'.dk.ok
      refine s_when (b := false) (et_is (et_or (a := false) (b := false) (et_is (et_not (et_B (ev_call (z := .bl true) (ea_cons (ev_var rfl) (ea_cons (ev_var rfl) (ea_cons (ev_var rfl) ea_nil))) fun H6 e6 Q6 q6 E6 => ⟨p', ls', lw', xs', ys', S', W', rfl, TE'.dk.ex e6, e6 _ _ TE'.hs, TE'.rs.ex e6, e6 _ _ TE'.hw, TE'.rb.ex e6, q6⟩))) rfl) fun _ => ?_) rfl) (fun z => by cases z) fun _ H6 e6 => ⟨_, _, _, rfl, e.trans e6⟩
      refine et_is (et_test (ev_op (ev_eqO (ek_ev (ev_var rfl) TE'.dk) (ek_ev (ev_var rfl) TE.dk)) (ev_andV (ev_eqLs (n := 8) (ev_var rfl) (ev_var rfl) TE'.hs TE.hs TE'.rs TE.rs (fun d hd => fine_le (blk_fine (ok'.bs d hd)) (by decide)) (fun d hd => fine_le (blk_fine (ok.bs d hd)) (by decide)) (by decide)) fun _ => ev_eqLs (n := 8) (ev_var rfl) (ev_var rfl) TE'.hw TE.hw TE'.rb TE.rb ?_ ?_ (by decide)) (rv_ne rfl))) ?_
      · intro d hd
        obtain ⟨q, hq, rfl⟩ := List.mem_map.mp hd
        exact fine_le (prD_fine (ok'.bw q hq).2) (by decide)
      · intro d hd
        obtain ⟨q, hq, rfl⟩ := List.mem_map.mp hd
        exact fine_le (prD_fine (ok.bw q hq).2) (by decide)
      · have e0 : eqD S' S W' W = (PyData.eqvAll (K0.D.pyL S') (K0.D.pyL S) && PyData.eqvAll (K0.D.pyL (W'.map prD)) (K0.D.pyL (W.map prD))) := by
          unfold eqD
          simp only [K0.D.py, PyData.eqv]
        rw [e0, decide_eq_true rfl]
        rfl
    · obtain ⟨v7, v8, v9, rfl, e⟩ := g
      have TE := T1.ex e
      have kd := ek_ev (σ := [some (.ref a), some (.ref ls), some (.ref lw), none, some (.ref p), some (.ref l), v6, v7, v8, v9]) (te := tVar 4) (ev_var rfl) TE.dk
      have ks : EvK K A.Disk (tMeth A.Disk "synced" (sp_Disk_synced K A) [] E0 (tVar 4) tNil) [some (.ref a), some (.ref ls), some (.ref lw), none, some (.ref p), some (.ref l), v6, v7, v8, v9] H2' (rd S W) [] := ek_meth0 kd (look_m (by decide +kernel) (by decide +kernel)) fun p1 H3 e3 d3 Q3 k3 => ⟨p1, S, W, rfl, d3, k3⟩
      refine s_ret (ev_is (ev_andV (a := true) (b := true) (ev_neOD (ds := S) kd (ek_prop kd fun p1 H3 e3 d3 Q3 k3 => ⟨p1, S, W, rfl, d3, k3⟩)) fun _ => ev_is (ev_andV (a := true) (b := true) (ev_neON kd) fun _ => ev_is (ev_eqO (ek_meth0 (S' := rd (rd S W) []) (W' := []) ks (look_m (by decide +kernel) (by decide +kernel)) fun p1 H3 e3 d3 Q3 k3 => ⟨p1, _, _, rfl, d3, k3⟩) ks) ?_) rfl) rfl) fun H3 e3 => k H3 ((b.trans (Bt.of e)).trans (Bt.of e3)) (TE.dice.ex e3)
      show V.bl (eqD (rd S W) (rd S W) [] []) = V.bl true
      rw [eqD_self ok.sync]
end
end K0

namespace K0
open PySem L2 Evl
section
variable {K : PySem.W.Frag} {σ : L2.St} {H H' : Hp} {ta tb te tx tn : TE} {t u : TT} {tr : TA} {Q : VK} {D : Ends} {tz tu tw : TS}
theorem n_ifS (h : t σ H fun b H1 => if b = true then tu D σ H1 else tw D σ H1) : tIfS t tu tw D σ H := h
theorem n_or {Q : Bool → Hp → Prop} (h : t σ H fun b H1 => if b = true then Q true H1 else u σ H1 Q) : tOr t u σ H Q := h
theorem n_not {Q : Bool → Hp → Prop} (h : t σ H fun b H1 => Q (!b) H1) : tNot t σ H Q := h
theorem n_B {Q : Bool → Hp → Prop} (h : te σ H fun v H1 => ∃ b, v = .bl b ∧ Q b H1) : tB te σ H Q := h
theorem sq_btF {p a : Addr} {xs : List V} {H1 H2 : Hp} (hp : H p = none) (h : SqL K H a xs) (e : Ex H H1) (b : Bt p H1 H2) : SqL K H2 a xs := by
  rcases h with (h | ⟨o, h⟩) | h
  · exact .inl (.inl (b.at (ne_of_none h hp) (e _ _ h)))
  · exact .inl (.inr ⟨o, b.at (ne_of_none h hp) (e _ _ h)⟩)
  · exact .inr h
variable {C : Addr} {A : Ad} {E : XK} {S : List K0.D} {W : List (Nat × K0.D)}
theorem q_asgK {i : Nat} (h : EvK K C te σ H S W) (k : ∀ q H1, Ex H H1 → DiskAt K C H1 q S W → tz D (σ.set i (some (.ref q))) H1) : tSeq (tAsg te (gName i)) tz D σ H := h H (Ex.refl H) _ k
theorem ek_empty {n : Nat} (h : Ev ta σ H (.ref A.Disk)) (h1 : 2 ≤ n) (h2 : n ≤ 200) : EvK K A.Disk (ClX.tCMeth A.Disk (sp_Disk_empty K A) E ta (tCons (tC (.int (n : Int))) tNil)) σ H (List.replicate n .non) [] := fun H1 e Q q =>
  h H1 e _ fun H2 e2 => ⟨rfl, n_cons (ev_c (v := .int (n : Int)) H2 (Ex.refl _) _ fun H4 e4 => n_nil ⟨n, rfl, h1, h2, fun r H3 e3 d => q r H3 ((e2.trans e4).trans e3) d⟩)⟩
theorem ek_put {n : Nat} {d : K0.D} {td : TE} (h : EvK K A.Disk ta σ H S W) (hn : n < S.length) (hw : W.length < 400) (hd : d ∈ menu) (h2 : EvD K td σ H d) :
    EvK K A.Disk (tMeth A.Disk "put" (sp_Disk_put K A) [] E ta (tCons (tC (.int (n : Int))) (tCons td tNil))) σ H S (W ++ [(n, d)]) :=
  ek_methA (ds := [.int (n : Int), d]) h (look_m (by decide +kernel) (by decide +kernel)) (eda_cons ed_int (eda_cons h2 eda_nil)) fun p vs H1 e dk r Q k => by
    cases r with
    | cons r1 r =>
      cases r1
      cases r with
      | cons r2 r =>
        cases r
        exact ⟨p, S, W, n, _, d, rfl, dk, hn, hw, hd, r2, k⟩
theorem ek_fallen {idx : List Nat} {td : TE} (h : EvK K A.Disk ta σ H S W) (h2 : EvD K td σ H (idxD idx)) (hl : idx.length ≤ 1000) (hi : ∀ i ∈ idx, i < W.length) (ha : ascB (idx.map fun i : Nat => (i : Int)) = true) :
    EvK K A.Disk (tMeth A.Disk "fallen" (sp_Disk_fallen K A) [] E ta (tCons td tNil)) σ H (rd S (pickW W idx)) [] :=
  ek_methA (ds := [idxD idx]) h (look_m (by decide +kernel) (by decide +kernel)) (eda_cons h2 eda_nil) fun p vs H1 e dk r Q k => by
    cases r with
    | cons r1 r =>
      cases r
      exact ⟨p, S, W, _, idx, rfl, dk, r1, hl, hi, ha, k⟩
theorem ed_lenK (h : EvK K A.Disk te σ H S W) : EvD K (tCB (rLenO A.Disk (sp_Disk_len K A) E) (tCons te tNil)) σ H (.int (S.length : Int)) := fun H1 e Q q => h H1 e _ fun p H2 e2 d => by
  obtain ⟨⟨dx, a, b, hp, _⟩, ok⟩ := id d
  exact ⟨p, dx, _, rfl, hp, p, S, W, rfl, d, fun H3 e3 => ⟨S.length, rfl, by have := ok.hi; omega, q _ H3 (e2.trans e3) (.int _)⟩⟩
theorem ev_neVL {a : Addr} {xs : List V} {ds es : List K0.D} {n : Nat} (h1 : Ev ta σ H (.ref a)) (hx : H a = some (.lst xs)) (rx : RpAll K H xs ds) (h2 : EvDA K tr σ H es) (l : es.length ≤ 1000) (fd : ∀ d ∈ ds, d.fine n = true) (fe : ∀ d ∈ es, d.fine n = true) (hn : n + 1 ≤ 64) :
    Ev (tOp (rNeD K) ta (tLst tr)) σ H (.bl (!PyData.eqvAll (K0.D.pyL ds) (K0.D.pyL es))) := fun H1 e Q q =>
  h1 H1 e _ fun H2 e2 => h2 H2 (e.trans e2) _ fun vs H3 e3 r => ⟨by rw [r.len]; exact sz_of (by omega), fun p hp => by
    have e4 := (e.trans e2).trans e3
    refine ⟨.list (K0.D.pyL ds), .list (K0.D.pyL es), dpL ((e4.trans (Ex.new hp)) _ _ hx) (rx.ex (e4.trans (Ex.new hp))) (fine_all ds fd).1, dpL upd_same (r.ex (Ex.new hp)) (fine_all es fe).1, shapedL_of fd hn, shapedL_of fe hn, ?_⟩
    exact q _ ((e2.trans e3).trans (Ex.new hp))⟩
end
def S3 : List D := List.replicate 3 .non
def W3 : List (Nat × D) := (([] ++ [(0, D.tup [.str "a"])]) ++ [(1, D.tup [.int 1, .non])]) ++ [(0, D.tup [.str "b"])]
def T3 : List D := [.tup [.str "b"], .tup [.tup [.str "a"], .non, .non], .tup [.tup [.str "b"], .non, .non], .tup [], .int 200]
section
variable {P : Program} {w : World} {K : PySem.W.Frag} {mg : Str → Option Value} {base : Heap} {A : Ad} {D : Fd}
def sp_law (K : PySem.W.Frag) : Sp := fun vs H Q _ => ∃ (a : Addr) (ns : List Int), vs = [.ref a] ∧ SqL K H a (ns.map V.int) ∧ ns.length ≤ 63 ∧ ∀ H', Q (.bl true) H'
theorem len_law {vs : List V} {H : Hp} {Q : VK} {E : XK} (h : sp_law K vs H Q E) : vs.length = 1 := by
  obtain ⟨a, ns, rfl, _⟩ := h
  rfl
theorem ok_law (T : Txt K mg A D) : FnOk P w K mg base CX0 18 A.law D.law ["script"] (sp_law K) := by
  have G_law_dice : FnOk P w K mg base CX0 1 A.law_dice D.law_dice ["script", "spot"] (sp_law_dice K) := ok_law_dice T
  have G_law_right : FnOk P w K mg base CX0 17 A.law_right D.law_right ["dice"] (sp_law_right K) := ok_law_right T
  have G_Disk_put : FnOk P w K mg base CX0 12 A.Disk_put D.Disk_put ["self", "place", "block"] (sp_Disk_put K A) := ok_Disk_put T
  have G_Disk_sure : FnOk P w K mg base CX0 1 A.Disk_sure D.Disk_sure ["self"] (sp_Disk_sure K A) := ok_Disk_sure T
  have G_Disk_waiting : FnOk P w K mg base CX0 1 A.Disk_waiting D.Disk_waiting ["self"] (sp_Disk_waiting K A) := ok_Disk_waiting T
  have G_Disk_read : FnOk P w K mg base CX0 6 A.Disk_read D.Disk_read ["self", "place"] (sp_Disk_read K A) := ok_Disk_read T
  have G_Disk_fallen : FnOk P w K mg base CX0 12 A.Disk_fallen D.Disk_fallen ["self", "kept"] (sp_Disk_fallen K A) := ok_Disk_fallen T
  have G_Disk_synced : FnOk P w K mg base CX0 12 A.Disk_synced D.Disk_synced ["self"] (sp_Disk_synced K A) := ok_Disk_synced T
  have G_Disk_empty : FnOk P w K mg base CX0 12 A.Disk_empty D.Disk_empty ["cls", "many"] (sp_Disk_empty K A) := ok_Disk_empty T
  have G_Disk_eq : FnOk P w K mg base CX0 1 A.Disk_eq D.Disk_eq ["self", "other"] (sp_Disk_eq K A) := ok_Disk_eq T
  have G_Disk_len : FnOk P w K mg base CX0 1 A.Disk_len D.Disk_len ["self"] (sp_Disk_len K A) := ok_Disk_len T
  obtain ⟨_, hp_Disk_sure⟩ := T.p_Disk_sure
  obtain ⟨_, hp_Disk_waiting⟩ := T.p_Disk_waiting
  obtain ⟨_, hc_Disk_empty⟩ := T.cm_Disk_empty
  refine T.F_law.ok sc_law (fun vs H Q E h => len_law h) (fun cdv A0 outer s H vs Q E hr h => ?_)
  refine ⟨_, (pss_cons (ps_for PassesOwn.never rfl (pi_range1 rfl T.b_range (pa_cons (pe_callB (call_max2 rfl) (by rfl) T.b_max (by decide +kernel) (pa_cons pe_int (pa_cons (pe_callB (call_min2 rfl) (by rfl) T.b_min (by decide +kernel) (pa_cons pe_int (pa_cons (pe_callB call_len (by rfl) T.b_len (by decide +kernel) (pa_cons (pv 0) pa_nil)) pa_nil))) pa_nil))) pa_nil)) (pg_name (i := 1) sc_law.nd rfl (Or.inl rfl)) (pss_cons (ps_set (i := 2) sc_law.nd rfl (Or.inl rfl) (pe_call G_law_dice (hr.mono (by decide)) rfl T.g_law_dice T.F_law_dice.kp T.b_law_dice .nil pass0 (pa_cons (pv 0) (pa_cons (pv 1) pa_nil))))
  (pss_one (ps_if (PW.pt (pw_or (pt_not (pt_val (pe_call G_law_right (hr.mono (by decide)) rfl T.g_law_right T.F_law_right.kp T.b_law_right .nil pass0 (pa_cons (pv 2) pa_nil)))) (pw_or1 (pt_not (pt_val (pe_call G_law_right (hr.mono (by decide)) rfl T.g_law_right T.F_law_right.kp T.b_law_right .nil pass0 (pa_cons (pv 2) pa_nil))))))) (pss_one (ps_ret pe_bl)) pss_nil))))
  (pss_cons (ps_set (i := 3) sc_law.nd rfl (Or.inl rfl) (pe_meth (pe_meth (pe_meth (ClX.pe_cmeth (pe_glob (v := .ref A.Disk) rfl T.g_Disk rfl) T.rd_Disk hc_Disk_empty (fnr_of G_Disk_empty T.b_Disk_empty) (hr.mono (by decide)) pass0 (pa_cons pe_int pa_nil)) T.cl_Disk T.m_Disk_put G_Disk_put (hr.mono (by decide)) T.b_Disk_put .nil pass0 (pa_cons pe_int (pa_cons (pe_tup (pa_cons pe_str pa_nil)) pa_nil))) T.cl_Disk T.m_Disk_put G_Disk_put (hr.mono (by decide)) T.b_Disk_put .nil pass0 (pa_cons pe_int (pa_cons (pe_tup (pa_cons pe_int (pa_cons pe_non pa_nil))) pa_nil))) T.cl_Disk T.m_Disk_put G_Disk_put (hr.mono (by decide)) T.b_Disk_put .nil pass0 (pa_cons pe_int (pa_cons (pe_tup (pa_cons pe_str pa_nil)) pa_nil))))
  (pss_cons (ps_set (i := 4) sc_law.nd rfl (Or.inl rfl) (pe_lst (pa_cons (pe_meth (pv 3) T.cl_Disk T.m_Disk_read G_Disk_read (hr.mono (by decide)) T.b_Disk_read .nil pass0 (pa_cons pe_int pa_nil)) (pa_cons (pe_prop (pe_meth (pv 3) T.cl_Disk T.m_Disk_fallen G_Disk_fallen (hr.mono (by decide)) T.b_Disk_fallen .nil pass0 (pa_cons (pe_tup (pa_cons pe_int pa_nil)) pa_nil)) T.cl_Disk hp_Disk_sure G_Disk_sure (hr.mono (by decide)) T.b_Disk_sure .nil pass0 (by rfl)) (pa_cons (pe_prop (pe_meth (pv 3) T.cl_Disk T.m_Disk_fallen G_Disk_fallen (hr.mono (by decide)) T.b_Disk_fallen .nil pass0 (pa_cons (pe_tup (pa_cons pe_int (pa_cons pe_int pa_nil))) pa_nil)) T.cl_Disk hp_Disk_sure G_Disk_sure (hr.mono (by decide)) T.b_Disk_sure .nil pass0 (by rfl)) (pa_cons (pe_prop (pe_meth0 (pv 3) T.cl_Disk T.m_Disk_synced G_Disk_synced (hr.mono (by decide)) T.b_Disk_synced .nil pass0 ) T.cl_Disk hp_Disk_waiting G_Disk_waiting (hr.mono (by decide)) T.b_Disk_waiting .nil pass0 (by rfl)) (pa_cons (pe_callB (cr_lenO G_Disk_len (hr.mono (by decide)) T.b_Disk_len pass0 T.m_Disk_len.at_ T.m_Disk_len.fn) (by rfl) T.b_len (by decide +kernel) (pa_cons (ClX.pe_cmeth (pe_glob (v := .ref A.Disk) rfl T.g_Disk rfl) T.rd_Disk hc_Disk_empty (fnr_of G_Disk_empty T.b_Disk_empty) (hr.mono (by decide)) pass0 (pa_cons pe_int pa_nil)) pa_nil)) pa_nil)))))))
  (pss_cons (ps_if (pt_cmpR (op_neD hr.units) (pv 4) (pe_lst (pa_cons (pe_tup (pa_cons pe_str pa_nil)) (pa_cons (pe_tup (pa_cons (pe_tup (pa_cons pe_str pa_nil)) (pa_cons pe_non (pa_cons pe_non pa_nil)))) (pa_cons (pe_tup (pa_cons (pe_tup (pa_cons pe_str pa_nil)) (pa_cons pe_non (pa_cons pe_non pa_nil)))) (pa_cons (pe_tup pa_nil) (pa_cons pe_int pa_nil)))))) (nomark _)) (pss_one (ps_ret pe_bl)) pss_nil)
  (pss_one (ps_ret (pe_and (pe_cmpR (op_eqO G_Disk_eq (hr.mono (by decide)) T.b_Disk_eq pass0 T.m_Disk_eq.at_ T.m_Disk_eq.fn T.fNoneType_Disk T.ftuple_Disk) (pe_meth (pv 3) T.cl_Disk T.m_Disk_fallen G_Disk_fallen (hr.mono (by decide)) T.b_Disk_fallen .nil pass0 (pa_cons (pe_tup pa_nil) pa_nil)) (ClX.pe_cmeth (pe_glob (v := .ref A.Disk) rfl T.g_Disk rfl) T.rd_Disk hc_Disk_empty (fnr_of G_Disk_empty T.b_Disk_empty) (hr.mono (by decide)) pass0 (pa_cons pe_int pa_nil)) (nomark _)) (pe_and (pe_cmpR (op_eqO G_Disk_eq (hr.mono (by decide)) T.b_Disk_eq pass0 T.m_Disk_eq.at_ T.m_Disk_eq.fn T.fNoneType_Disk T.ftuple_Disk) (pe_meth (pv 3) T.cl_Disk T.m_Disk_fallen G_Disk_fallen (hr.mono (by decide)) T.b_Disk_fallen .nil pass0 (pa_cons (pe_tup (pa_cons pe_int (pa_cons pe_int (pa_cons pe_int pa_nil)))) pa_nil)) (pe_meth0 (pv 3) T.cl_Disk T.m_Disk_synced G_Disk_synced (hr.mono (by decide)) T.b_Disk_synced .nil pass0 ) (nomark _)) (pe_one (pe_cmpR (op_neO G_Disk_eq (hr.mono (by decide)) T.b_Disk_eq pass0 T.m_Disk_eq.at_ T.ne_Disk T.ob_Disk.co T.m_Disk_eq.fn T.fNoneType_Disk T.ftuple_Disk) (pv 3) (ClX.pe_cmeth (pe_glob (v := .ref A.Disk) rfl T.g_Disk rfl) T.rd_Disk hc_Disk_empty (fnr_of G_Disk_empty T.b_Disk_empty) (hr.mono (by decide)) pass0 (pa_cons pe_int pa_nil)) (nomark _))))))))))), ?_⟩
  obtain ⟨a, ns, rfl, hS, hlen, k⟩ := h
  have hz : (ns.map V.int).length = ns.length := List.length_map ..
  refine q_forR1 (n := if (if ((ns.map V.int).length : Int) < 4 then ((ns.map V.int).length : Int) else 4) > 1 then (if ((ns.map V.int).length : Int) < 4 then ((ns.map V.int).length : Int) else 4) else 1) (ea_cons (ev_cb (ea_cons ev_c (ea_cons (ev_cb (ea_cons ev_c (ea_cons (ev_cb (ea_cons (ev_var rfl) ea_nil) (rc_lenL hS)) ea_nil)) rc_min2) ea_nil)) rc_max2) ea_nil)
    (by split <;> split <;> omega) (fun i σ' H' => ∃ v1 v2, σ' = [some (.ref a), v1, v2, none, none] ∧ SqL K H' a (ns.map V.int)) (fun H1 e1 => ⟨none, none, rfl, ex_l e1 hS⟩) (fun i σ' H' hi g => ?_) (fun σ' H' g => ?_)
  · obtain ⟨v1, v2, rfl, hS'⟩ := g
    refine q_asgC (ea_cons (ev_var rfl) (ea_cons (ev_var rfl) ea_nil)) fun H1 e1 => ⟨a, ns, i, rfl, ex_l e1 hS', fun d H2 hd e2 dd => ?_⟩
    refine n_ifS (n_or (n_not (n_B (c_call (ea_cons (ev_var rfl) ea_nil) fun H3 e3 => ⟨d, rfl, dd.ex e3, fun H4 b4 d4 => ⟨true, rfl, ?_⟩⟩))))
    rw [if_neg (by decide)]
    refine n_not (n_B (c_call (ea_cons (ev_var rfl) ea_nil) fun H5 e5 => ⟨d, rfl, d4.ex e5, fun H6 b6 d6 => ⟨true, rfl, ?_⟩⟩))
    rw [if_neg (by decide)]
    refine n_next ⟨_, _, rfl, ?_⟩
    have h1 : SqL K H4 a (ns.map V.int) := sq_btF hd (ex_l e1 hS') (e2.trans e3) b4
    exact sq_btF hd (ex_l e1 hS') (e2.trans e3) ((b4.trans (Bt.of e5)).trans b6)
  · obtain ⟨v1, v2, rfl, hS'⟩ := g
    refine q_asgK (S := S3) (W := W3) (ek_put (ek_put (ek_put (ek_empty ev_c (by decide) (by decide)) (by decide) (by decide) (by simp [menu]) (ed_tup (eda_cons ed_str eda_nil) (by simp))) (by decide) (by decide) (by simp [menu]) (ed_tup (eda_cons ed_int (eda_cons ed_non eda_nil)) (by simp))) (by decide) (by decide) (by simp [menu]) (ed_tup (eda_cons ed_str eda_nil) (by simp))) fun p H1 e1 dk => ?_
    have kd := ek_ev (σ := [some (.ref a), v1, v2, some (.ref p), none]) (te := tVar 3) (ev_var rfl) dk
    refine q_asgX (l_lst (K := K) (ds := T3) (eda_cons (ek_dataA (ds := [.int 0]) kd (look_m (by decide +kernel) (by decide +kernel)) (eda_cons ed_int eda_nil) fun p1 vs H2 e2 d2 r Q2 k2 => ?_)
      (eda_cons (ek_prop (ek_fallen (idx := [0]) kd (ed_tup (eda_cons ed_int eda_nil) (by simp)) (by decide) (by decide) rfl) fun p1 H2 e2 d2 Q2 k2 => ⟨p1, _, _, rfl, d2, k2⟩)
      (eda_cons (ek_prop (ek_fallen (idx := [0, 2]) kd (ed_tup (eda_cons ed_int (eda_cons ed_int eda_nil)) (by simp)) (by decide) (by decide) rfl) fun p1 H2 e2 d2 Q2 k2 => ⟨p1, _, _, rfl, d2, k2⟩)
      (eda_cons (ek_prop (ek_meth0 (S' := rd S3 W3) (W' := []) kd (look_m (by decide +kernel) (by decide +kernel)) fun p1 H2 e2 d2 Q2 k2 => ⟨p1, _, _, rfl, d2, k2⟩) fun p1 H2 e2 d2 Q2 k2 => ⟨p1, _, _, rfl, d2, k2⟩)
      (eda_cons (ed_lenK (S := List.replicate 200 .non) (ek_empty ev_c (by decide) (by decide))) eda_nil))))) (by decide) fun l xs H2 hl e2 h2 r => ?_)
    · cases r with
      | cons r1 r =>
        cases r1
        cases r
        exact ⟨p1, _, _, 0, _, rfl, d2, rfl, k2⟩
    · have dk2 := dk.ex e2
      have f3 : ∀ d ∈ T3, d.fine 10 = true := List.all_eq_true.mp (by decide +kernel)
      refine q_when (b := false) (et_is (et_test (ev_neVL (n := 10) (ds := T3) (es := T3) (ev_var rfl) h2 r ?_ (by decide) f3 f3 (by decide))) (by rw [eqvAll_self _ (fine_all T3 f3).1]; rfl)) (fun z => by cases z) fun _ H3 e3 => ?_
      · repeat' first
          | exact eda_nil
          | exact ed_non
          | exact ed_int
          | exact ed_str
          | refine ed_tup ?_ (by simp)
          | refine eda_cons ?_ ?_
      · have kd := ek_ev (σ := [some (.ref a), v1, v2, some (.ref p), some (.ref l)]) (te := tVar 3) (ev_var rfl) (dk2.ex e3)
        refine s_ret (ev_is (ev_andV (a := true) (b := true) (ev_is (ev_eqO (ek_fallen (idx := []) kd (ed_tup eda_nil (by simp)) (by decide) (by decide) rfl) (ek_empty (n := 3) ev_c (by decide) (by decide))) (congrArg V.bl (by decide +kernel))) fun _ =>
          ev_andV (a := true) (b := true) (ev_is (ev_eqO (ek_fallen (idx := [0, 1, 2]) kd (ed_tup (eda_cons ed_int (eda_cons ed_int (eda_cons ed_int eda_nil))) (by simp)) (by decide) (by decide) rfl) (ek_meth0 (S' := rd S3 W3) (W' := []) kd (look_m (by decide +kernel) (by decide +kernel)) fun p1 H2 e2 d2 Q2 k2 => ⟨p1, _, _, rfl, d2, k2⟩)) (congrArg V.bl (by decide +kernel))) fun _ =>
          ev_is (ev_neO kd (ek_empty (n := 3) ev_c (by decide) (by decide))) (congrArg V.bl (by decide +kernel))) rfl) fun H4 _ => k H4
end
end K0

namespace K0
open PySem L2 Evl
theorem all_mk {l : PySem.W.OpenLaw} {w : World} {K : PySem.W.Frag} {h : Heap} {mg : Str → Option Value} {fa CDisk f0 f1 f2 f3 f4 f5 f6 f7 f8 f9 f10 f11 f12 f13 f14 f15 f16 f17 f18 f19 f20 f21 f22 f23 f24 f25 f26 f27 f28 f29 f30 f31 f32 : Addr} (X : K.In h) (G : h.Ns mainGlobals mg) (hfa : mg "law" = some (.ref fa))
    {od0 an0 od1 an1 od2 an2 od3 an3 od4 an4 od5 an5 od6 an6 od7 an7 od8 an8 dr8 od9 an9 od10 an10 od11 an11 od12 an12 od13 an13 od14 an14 od15 an15 od16 an16 od17 an17 od18 an18 od19 an19 od20 an20 od21 an21 od22 an22 od23 an23 od24 an24 od25 an25 od26 an26 od27 an27 od28 an28 od29 an29 od30 an30 od31 an31 od32 an32 : Option Addr}
    {sl0 sl1 sl2 sl3 sl4 sl5 sl6 sl7 sl8 dl8 sl9 sl10 sl11 sl12 sl13 sl14 sl15 sl16 sl17 sl18 sl19 sl20 sl21 sl22 sl23 sl24 sl25 sl26 sl27 sl28 sl29 sl30 sl31 sl32 : Array (Option Value)}
    {oc0 kV0 dc0 pm0 cd0 ct0 oc1 kV1 dc1 pm1 cd1 ct1 oc2 kV2 dc2 pm2 cd2 ct2 oc3 kV3 dc3 pm3 cd3 ct3 oc4 kV4 dc4 pm4 cd4 ct4 oc5 kV5 dc5 pm5 cd5 ct5 oc6 kV6 dc6 pm6 cd6 ct6 oc7 kV7 dc7 pm7 cd7 ct7 oc8 kV8 dc8 pm8 cd8 ct8 dq8 oc9 kV9 dc9 pm9 cd9 ct9 oc10 kV10 dc10 pm10 cd10 ct10 oc11 kV11 dc11 pm11 cd11 ct11 oc12 kV12 dc12 pm12 cd12 ct12 oc13 kV13 dc13 pm13 cd13 ct13 oc14 kV14 dc14 pm14 cd14 ct14 oc15 kV15 dc15 pm15 cd15 ct15 oc16 kV16 dc16 pm16 cd16 ct16 oc17 kV17 dc17 pm17 cd17 ct17 oc18 kV18 dc18 pm18 cd18 ct18 oc19 kV19 dc19 pm19 cd19 ct19 oc20 kV20 dc20 pm20 cd20 ct20 oc21 kV21 dc21 pm21 cd21 ct21 oc22 kV22 dc22 pm22 cd22 ct22 oc23 kV23 dc23 pm23 cd23 ct23 oc24 kV24 dc24 pm24 cd24 ct24 oc25 kV25 dc25 pm25 cd25 ct25 oc26 kV26 dc26 pm26 cd26 ct26 oc27 kV27 dc27 pm27 cd27 ct27 oc28 kV28 dc28 pm28 cd28 ct28 oc29 kV29 dc29 pm29 cd29 ct29 oc30 kV30 dc30 pm30 cd30 ct30 oc31 kV31 dc31 pm31 cd31 ct31 oc32 kV32 dc32 pm32 cd32 ct32 : Value}
    {dt8 p12 p13 p14 : Addr}
    {dn8 : Nat}
    {dk8_0 tk0 tk1 tk2 tk3 tk4 tk5 : Tok}
    {rr12 rr13 rr14 : List Value}
    (aCDisk : PySem.W.nsIn K mainGlobals "Disk" = some (some (.ref CDisk)))
    (a0 : PySem.W.nsIn K mainGlobals "is_number" = some (some (.ref f0)))
    (l0 : K.lookup f0 = some ⟨oc0, od0, .func (PySem.W.fnOf "is_number" "is_number" (defArgs s_is_number) (defBody s_is_number) (defScope s_is_number) .none kV0 dc0 pm0 an0 cd0 ct0), sl0⟩)
    (c0 : PySem.W.codeIn K cd0 "is_number" = true)
    (k0 : PySem.W.keepIn K (.ref f0) = true)
    (a1 : PySem.W.nsIn K mainGlobals "is_within" = some (some (.ref f1)))
    (l1 : K.lookup f1 = some ⟨oc1, od1, .func (PySem.W.fnOf "is_within" "is_within" (defArgs s_is_within) (defBody s_is_within) (defScope s_is_within) .none kV1 dc1 pm1 an1 cd1 ct1), sl1⟩)
    (c1 : PySem.W.codeIn K cd1 "is_within" = true)
    (k1 : PySem.W.keepIn K (.ref f1) = true)
    (a2 : PySem.W.nsIn K mainGlobals "are_indices" = some (some (.ref f2)))
    (l2 : K.lookup f2 = some ⟨oc2, od2, .func (PySem.W.fnOf "are_indices" "are_indices" (defArgs s_are_indices) (defBody s_are_indices) (defScope s_are_indices) .none kV2 dc2 pm2 an2 cd2 ct2), sl2⟩)
    (c2 : PySem.W.codeIn K cd2 "are_indices" = true)
    (k2 : PySem.W.keepIn K (.ref f2) = true)
    (a3 : PySem.W.nsIn K mainGlobals "are_ascending" = some (some (.ref f3)))
    (l3 : K.lookup f3 = some ⟨oc3, od3, .func (PySem.W.fnOf "are_ascending" "are_ascending" (defArgs s_are_ascending) (defBody s_are_ascending) (defScope s_are_ascending) .none kV3 dc3 pm3 an3 cd3 ct3), sl3⟩)
    (c3 : PySem.W.codeIn K cd3 "are_ascending" = true)
    (k3 : PySem.W.keepIn K (.ref f3) = true)
    (a4 : PySem.W.nsIn K mainGlobals "is_made_of" = some (some (.ref f4)))
    (l4 : K.lookup f4 = some ⟨oc4, od4, .func (PySem.W.fnOf "is_made_of" "is_made_of" (defArgs s_is_made_of) (defBody s_is_made_of) (defScope s_is_made_of) .none kV4 dc4 pm4 an4 cd4 ct4), sl4⟩)
    (c4 : PySem.W.codeIn K cd4 "is_made_of" = true)
    (k4 : PySem.W.keepIn K (.ref f4) = true)
    (a5 : PySem.W.nsIn K mainGlobals "is_plain" = some (some (.ref f5)))
    (l5 : K.lookup f5 = some ⟨oc5, od5, .func (PySem.W.fnOf "is_plain" "is_plain" (defArgs s_is_plain) (defBody s_is_plain) (defScope s_is_plain) .none kV5 dc5 pm5 an5 cd5 ct5), sl5⟩)
    (c5 : PySem.W.codeIn K cd5 "is_plain" = true)
    (k5 : PySem.W.keepIn K (.ref f5) = true)
    (a6 : PySem.W.nsIn K mainGlobals "is_plain_within" = some (some (.ref f6)))
    (l6 : K.lookup f6 = some ⟨oc6, od6, .func (PySem.W.fnOf "is_plain_within" "is_plain_within" (defArgs s_is_plain_within) (defBody s_is_plain_within) (defScope s_is_plain_within) .none kV6 dc6 pm6 an6 cd6 ct6), sl6⟩)
    (c6 : PySem.W.codeIn K cd6 "is_plain_within" = true)
    (k6 : PySem.W.keepIn K (.ref f6) = true)
    (a7 : PySem.W.nsIn K mainGlobals "_is_single" = some (some (.ref f7)))
    (l7 : K.lookup f7 = some ⟨oc7, od7, .func (PySem.W.fnOf "_is_single" "_is_single" (defArgs s_is_single) (defBody s_is_single) (defScope s_is_single) .none kV7 dc7 pm7 an7 cd7 ct7), sl7⟩)
    (c7 : PySem.W.codeIn K cd7 "_is_single" = true)
    (k7 : PySem.W.keepIn K (.ref f7) = true)
    (a8 : PySem.W.nsIn K mainGlobals "check_number" = some (some (.ref f8)))
    (l8 : K.lookup f8 = some ⟨oc8, od8, .func (PySem.W.fnOf "check_number" "check_number" (defArgs s_check_number) (defBody s_check_number) (defScope s_check_number) (.ref dt8) kV8 dc8 pm8 an8 cd8 ct8), sl8⟩)
    (c8 : PySem.W.codeIn K cd8 "check_number" = true)
    (k8 : PySem.W.keepIn K (.ref f8) = true)
    (d8 : K.lookup dt8 = some ⟨dq8, dr8, .seq (List.toArray [.int (999999999999999999999999999999999999999999999999999999999999) dk8_0]) dn8, dl8⟩)
    (a9 : PySem.W.nsIn K mainGlobals "is_block" = some (some (.ref f9)))
    (l9 : K.lookup f9 = some ⟨oc9, od9, .func (PySem.W.fnOf "is_block" "is_block" (defArgs s_is_block) (defBody s_is_block) (defScope s_is_block) .none kV9 dc9 pm9 an9 cd9 ct9), sl9⟩)
    (c9 : PySem.W.codeIn K cd9 "is_block" = true)
    (k9 : PySem.W.keepIn K (.ref f9) = true)
    (a10 : PySem.W.nsIn K mainGlobals "are_blocks" = some (some (.ref f10)))
    (l10 : K.lookup f10 = some ⟨oc10, od10, .func (PySem.W.fnOf "are_blocks" "are_blocks" (defArgs s_are_blocks) (defBody s_are_blocks) (defScope s_are_blocks) .none kV10 dc10 pm10 an10 cd10 ct10), sl10⟩)
    (c10 : PySem.W.codeIn K cd10 "are_blocks" = true)
    (k10 : PySem.W.keepIn K (.ref f10) = true)
    (a11 : PySem.W.findIn K (.ref CDisk) "__init__" = some (some (.ref f11)))
    (i11 : PySem.W.isFn K (.ref f11) = true)
    (l11 : K.lookup f11 = some ⟨oc11, od11, .func (PySem.W.fnOf "__init__" "Disk.__init__" (defArgs s_Disk_init) (defBody s_Disk_init) (defScope s_Disk_init) .none kV11 dc11 pm11 an11 cd11 ct11), sl11⟩)
    (c11 : PySem.W.codeIn K cd11 "Disk.__init__" = true)
    (k11 : PySem.W.keepIn K (.ref f11) = true)
    (a12 : PySem.W.findCls K (.ref CDisk) (.type "type") "empty" = some (.get (.builtin "classmethod.__get__") (.ref p12) .none (.ref CDisk)))
    (r12 : PySem.W.recIn K p12 "classmethod" = some (.ref f12 :: rr12))
    (g12 : PySem.W.fnIn K f12 = true)
    (l12 : K.lookup f12 = some ⟨oc12, od12, .func (PySem.W.fnOf "empty" "Disk.empty" (defArgs s_Disk_empty) (defBody s_Disk_empty) (defScope s_Disk_empty) .none kV12 dc12 pm12 an12 cd12 ct12), sl12⟩)
    (c12 : PySem.W.codeIn K cd12 "Disk.empty" = true)
    (k12 : PySem.W.keepIn K (.ref f12) = true)
    (a13 : PySem.W.findIn K (.ref CDisk) "sure" = some (some (.ref p13)))
    (g13 : PySem.W.specialIn K (.ref p13) "__get__" = some (some (.builtin "property.__get__")))
    (t13 : PySem.W.takesIn K (.ref p13) = some true)
    (r13 : PySem.W.recIn K p13 "property" = some (.ref f13 :: rr13))
    (l13 : K.lookup f13 = some ⟨oc13, od13, .func (PySem.W.fnOf "sure" "Disk.sure" (defArgs s_Disk_sure) (defBody s_Disk_sure) (defScope s_Disk_sure) .none kV13 dc13 pm13 an13 cd13 ct13), sl13⟩)
    (c13 : PySem.W.codeIn K cd13 "Disk.sure" = true)
    (k13 : PySem.W.keepIn K (.ref f13) = true)
    (a14 : PySem.W.findIn K (.ref CDisk) "waiting" = some (some (.ref p14)))
    (g14 : PySem.W.specialIn K (.ref p14) "__get__" = some (some (.builtin "property.__get__")))
    (t14 : PySem.W.takesIn K (.ref p14) = some true)
    (r14 : PySem.W.recIn K p14 "property" = some (.ref f14 :: rr14))
    (l14 : K.lookup f14 = some ⟨oc14, od14, .func (PySem.W.fnOf "waiting" "Disk.waiting" (defArgs s_Disk_waiting) (defBody s_Disk_waiting) (defScope s_Disk_waiting) .none kV14 dc14 pm14 an14 cd14 ct14), sl14⟩)
    (c14 : PySem.W.codeIn K cd14 "Disk.waiting" = true)
    (k14 : PySem.W.keepIn K (.ref f14) = true)
    (a15 : PySem.W.findIn K (.ref CDisk) "put" = some (some (.ref f15)))
    (i15 : PySem.W.isFn K (.ref f15) = true)
    (l15 : K.lookup f15 = some ⟨oc15, od15, .func (PySem.W.fnOf "put" "Disk.put" (defArgs s_Disk_put) (defBody s_Disk_put) (defScope s_Disk_put) .none kV15 dc15 pm15 an15 cd15 ct15), sl15⟩)
    (c15 : PySem.W.codeIn K cd15 "Disk.put" = true)
    (k15 : PySem.W.keepIn K (.ref f15) = true)
    (a16 : PySem.W.findIn K (.ref CDisk) "read" = some (some (.ref f16)))
    (i16 : PySem.W.isFn K (.ref f16) = true)
    (l16 : K.lookup f16 = some ⟨oc16, od16, .func (PySem.W.fnOf "read" "Disk.read" (defArgs s_Disk_read) (defBody s_Disk_read) (defScope s_Disk_read) .none kV16 dc16 pm16 an16 cd16 ct16), sl16⟩)
    (c16 : PySem.W.codeIn K cd16 "Disk.read" = true)
    (k16 : PySem.W.keepIn K (.ref f16) = true)
    (a17 : PySem.W.findIn K (.ref CDisk) "blocks" = some (some (.ref f17)))
    (i17 : PySem.W.isFn K (.ref f17) = true)
    (l17 : K.lookup f17 = some ⟨oc17, od17, .func (PySem.W.fnOf "blocks" "Disk.blocks" (defArgs s_Disk_blocks) (defBody s_Disk_blocks) (defScope s_Disk_blocks) .none kV17 dc17 pm17 an17 cd17 ct17), sl17⟩)
    (c17 : PySem.W.codeIn K cd17 "Disk.blocks" = true)
    (k17 : PySem.W.keepIn K (.ref f17) = true)
    (a18 : PySem.W.findIn K (.ref CDisk) "synced" = some (some (.ref f18)))
    (i18 : PySem.W.isFn K (.ref f18) = true)
    (l18 : K.lookup f18 = some ⟨oc18, od18, .func (PySem.W.fnOf "synced" "Disk.synced" (defArgs s_Disk_synced) (defBody s_Disk_synced) (defScope s_Disk_synced) .none kV18 dc18 pm18 an18 cd18 ct18), sl18⟩)
    (c18 : PySem.W.codeIn K cd18 "Disk.synced" = true)
    (k18 : PySem.W.keepIn K (.ref f18) = true)
    (a19 : PySem.W.findIn K (.ref CDisk) "fallen" = some (some (.ref f19)))
    (i19 : PySem.W.isFn K (.ref f19) = true)
    (l19 : K.lookup f19 = some ⟨oc19, od19, .func (PySem.W.fnOf "fallen" "Disk.fallen" (defArgs s_Disk_fallen) (defBody s_Disk_fallen) (defScope s_Disk_fallen) .none kV19 dc19 pm19 an19 cd19 ct19), sl19⟩)
    (c19 : PySem.W.codeIn K cd19 "Disk.fallen" = true)
    (k19 : PySem.W.keepIn K (.ref f19) = true)
    (a20 : PySem.W.findIn K (.ref CDisk) "__len__" = some (some (.ref f20)))
    (i20 : PySem.W.isFn K (.ref f20) = true)
    (l20 : K.lookup f20 = some ⟨oc20, od20, .func (PySem.W.fnOf "__len__" "Disk.__len__" (defArgs s_Disk_len) (defBody s_Disk_len) (defScope s_Disk_len) .none kV20 dc20 pm20 an20 cd20 ct20), sl20⟩)
    (c20 : PySem.W.codeIn K cd20 "Disk.__len__" = true)
    (k20 : PySem.W.keepIn K (.ref f20) = true)
    (a21 : PySem.W.findIn K (.ref CDisk) "__eq__" = some (some (.ref f21)))
    (i21 : PySem.W.isFn K (.ref f21) = true)
    (l21 : K.lookup f21 = some ⟨oc21, od21, .func (PySem.W.fnOf "__eq__" "Disk.__eq__" (defArgs s_Disk_eq) (defBody s_Disk_eq) (defScope s_Disk_eq) .none kV21 dc21 pm21 an21 cd21 ct21), sl21⟩)
    (c21 : PySem.W.codeIn K cd21 "Disk.__eq__" = true)
    (k21 : PySem.W.keepIn K (.ref f21) = true)
    (a22 : PySem.W.findIn K (.ref CDisk) "__str__" = some (some (.ref f22)))
    (i22 : PySem.W.isFn K (.ref f22) = true)
    (l22 : K.lookup f22 = some ⟨oc22, od22, .func (PySem.W.fnOf "__str__" "Disk.__str__" (defArgs s_Disk_str) (defBody s_Disk_str) (defScope s_Disk_str) .none kV22 dc22 pm22 an22 cd22 ct22), sl22⟩)
    (c22 : PySem.W.codeIn K cd22 "Disk.__str__" = true)
    (k22 : PySem.W.keepIn K (.ref f22) = true)
    (a23 : PySem.W.nsIn K mainGlobals "_made" = some (some (.ref f23)))
    (l23 : K.lookup f23 = some ⟨oc23, od23, .func (PySem.W.fnOf "_made" "_made" (defArgs s_made) (defBody s_made) (defScope s_made) .none kV23 dc23 pm23 an23 cd23 ct23), sl23⟩)
    (c23 : PySem.W.codeIn K cd23 "_made" = true)
    (k23 : PySem.W.keepIn K (.ref f23) = true)
    (a24 : PySem.W.nsIn K mainGlobals "_behind" = some (some (.ref f24)))
    (l24 : K.lookup f24 = some ⟨oc24, od24, .func (PySem.W.fnOf "_behind" "_behind" (defArgs s_behind) (defBody s_behind) (defScope s_behind) .none kV24 dc24 pm24 an24 cd24 ct24), sl24⟩)
    (c24 : PySem.W.codeIn K cd24 "_behind" = true)
    (k24 : PySem.W.keepIn K (.ref f24) = true)
    (a25 : PySem.W.nsIn K mainGlobals "_law_dice" = some (some (.ref f25)))
    (l25 : K.lookup f25 = some ⟨oc25, od25, .func (PySem.W.fnOf "_law_dice" "_law_dice" (defArgs s_law_dice) (defBody s_law_dice) (defScope s_law_dice) .none kV25 dc25 pm25 an25 cd25 ct25), sl25⟩)
    (c25 : PySem.W.codeIn K cd25 "_law_dice" = true)
    (k25 : PySem.W.keepIn K (.ref f25) = true)
    (a26 : PySem.W.nsIn K mainGlobals "_law_roll" = some (some (.ref f26)))
    (l26 : K.lookup f26 = some ⟨oc26, od26, .func (PySem.W.fnOf "_law_roll" "_law_roll" (defArgs s_law_roll) (defBody s_law_roll) (defScope s_law_roll) .none kV26 dc26 pm26 an26 cd26 ct26), sl26⟩)
    (c26 : PySem.W.codeIn K cd26 "_law_roll" = true)
    (k26 : PySem.W.keepIn K (.ref f26) = true)
    (a27 : PySem.W.nsIn K mainGlobals "_law_pick" = some (some (.ref f27)))
    (l27 : K.lookup f27 = some ⟨oc27, od27, .func (PySem.W.fnOf "_law_pick" "_law_pick" (defArgs s_law_pick) (defBody s_law_pick) (defScope s_law_pick) .none kV27 dc27 pm27 an27 cd27 ct27), sl27⟩)
    (c27 : PySem.W.codeIn K cd27 "_law_pick" = true)
    (k27 : PySem.W.keepIn K (.ref f27) = true)
    (a28 : PySem.W.nsIn K mainGlobals "_law_block_drawn" = some (some (.ref f28)))
    (l28 : K.lookup f28 = some ⟨oc28, od28, .func (PySem.W.fnOf "_law_block_drawn" "_law_block_drawn" (defArgs s_law_block_drawn) (defBody s_law_block_drawn) (defScope s_law_block_drawn) .none kV28 dc28 pm28 an28 cd28 ct28), sl28⟩)
    (c28 : PySem.W.codeIn K cd28 "_law_block_drawn" = true)
    (k28 : PySem.W.keepIn K (.ref f28) = true)
    (a29 : PySem.W.nsIn K mainGlobals "_law_is_right" = some (some (.ref f29)))
    (l29 : K.lookup f29 = some ⟨oc29, od29, .func (PySem.W.fnOf "_law_is_right" "_law_is_right" (defArgs s_law_is_right) (defBody s_law_is_right) (defScope s_law_is_right) .none kV29 dc29 pm29 an29 cd29 ct29), sl29⟩)
    (c29 : PySem.W.codeIn K cd29 "_law_is_right" = true)
    (k29 : PySem.W.keepIn K (.ref f29) = true)
    (a30 : PySem.W.nsIn K mainGlobals "_law_next" = some (some (.ref f30)))
    (l30 : K.lookup f30 = some ⟨oc30, od30, .func (PySem.W.fnOf "_law_next" "_law_next" (defArgs s_law_next) (defBody s_law_next) (defScope s_law_next) .none kV30 dc30 pm30 an30 cd30 ct30), sl30⟩)
    (c30 : PySem.W.codeIn K cd30 "_law_next" = true)
    (k30 : PySem.W.keepIn K (.ref f30) = true)
    (a31 : PySem.W.nsIn K mainGlobals "_law_right" = some (some (.ref f31)))
    (l31 : K.lookup f31 = some ⟨oc31, od31, .func (PySem.W.fnOf "_law_right" "_law_right" (defArgs s_law_right) (defBody s_law_right) (defScope s_law_right) .none kV31 dc31 pm31 an31 cd31 ct31), sl31⟩)
    (c31 : PySem.W.codeIn K cd31 "_law_right" = true)
    (k31 : PySem.W.keepIn K (.ref f31) = true)
    (a32 : PySem.W.nsIn K mainGlobals "law" = some (some (.ref f32)))
    (l32 : K.lookup f32 = some ⟨oc32, od32, .func (PySem.W.fnOf "law" "law" (defArgs s_law) (defBody s_law) (defScope s_law) .none kV32 dc32 pm32 an32 cd32 ct32), sl32⟩)
    (c32 : PySem.W.codeIn K cd32 "law" = true)
    (k32 : PySem.W.keepIn K (.ref f32) = true)
    (zDiskpg : PySem.W.plainGet K CDisk Str.empty = true)
    (zDiskhd : PySem.W.hasDictIn K CDisk = true)
    (zDiskpo : PySem.W.plainOver K CDisk = true)
    (zDisksa : PySem.W.findIn K (.ref CDisk) "__setattr__" = some (some (.builtin "object.__setattr__")))
    (zDiskmk : PySem.W.makesIn K CDisk = true)
    (zDiskkc : PySem.W.keepIn K (.ref CDisk) = true)
    (zDiskca : PySem.W.findIn K (.ref CDisk) "__class__" = some (some (.builtin "object.__class__")))
    (zDiskcg : PySem.W.specialIn K (.builtin "object.__class__") "__get__" = some (some (.builtin "getset_descriptor.__get__")))
    (zDiskct : PySem.W.takesIn K (.builtin "object.__class__") = some true)
    (zDiskco : PySem.W.mroIn K CDisk (.type "object") = some true)
    (zDiskrd : PySem.W.readsIn K CDisk (.type "type") = true)
    (zDiskga : PySem.W.specialIn K (.ref CDisk) "__getattribute__" = some (some (.builtin "type.__getattribute__")))
    (zDiskkNoneType : PySem.W.kitOne K (.type "NoneType") (.ref CDisk) = some false)
    (zDiskfNoneType : PySem.W.notFirst K CDisk (.type "NoneType") = true)
    (zDiskktuple : PySem.W.kitOne K (.type "tuple") (.ref CDisk) = some false)
    (zDiskftuple : PySem.W.notFirst K CDisk (.type "tuple") = true)
    (zDiskne : PySem.W.findIn K (.ref CDisk) "__ne__" = some (some (.builtin "object.__ne__")))
    (zDiskno_sure : PySem.W.findIn K (.ref CDisk) "_sure" = some none)
    (zDiskno_waiting : PySem.W.findIn K (.ref CDisk) "_waiting" = some none)
    (x0 : PySem.W.nsIn K mainGlobals "MAX_NEST" = some (some (.int (12) tk0)))
    (x1 : PySem.W.nsIn K mainGlobals "MAX_STRING" = some (some (.int (3000) tk1)))
    (x2 : PySem.W.nsIn K mainGlobals "MAX_NUMBER" = some (some (.int (999999999999999999999999999999999999999999999999999999999999) tk2)))
    (x3 : PySem.W.nsIn K mainGlobals "SIGNS" = some (some (.str "abcdefghijklmnopqrstuvwxyz0123456789 " tk3)))
    (x4 : PySem.W.nsIn K mainGlobals "MAX_BLOCKS" = some (some (.int (200) tk4)))
    (x5 : PySem.W.nsIn K mainGlobals "MAX_WAITING" = some (some (.int (400) tk5)))
    (y0 : PySem.W.nsIn K mainGlobals "abs" = some none)
    (y1 : PySem.W.nsIn K mainGlobals "all" = some none)
    (y2 : PySem.W.nsIn K mainGlobals "bool" = some none)
    (y3 : PySem.W.nsIn K mainGlobals "int" = some none)
    (y4 : PySem.W.nsIn K mainGlobals "isinstance" = some none)
    (y5 : PySem.W.nsIn K mainGlobals "len" = some none)
    (y6 : PySem.W.nsIn K mainGlobals "list" = some none)
    (y7 : PySem.W.nsIn K mainGlobals "max" = some none)
    (y8 : PySem.W.nsIn K mainGlobals "min" = some none)
    (y9 : PySem.W.nsIn K mainGlobals "range" = some none)
    (y10 : PySem.W.nsIn K mainGlobals "str" = some none)
    (y11 : PySem.W.nsIn K mainGlobals "tuple" = some none)
    (y12 : PySem.W.nsIn K mainGlobals "zip" = some none)
    : ∃ fd : FuncData, (∀ (s : Shared) (v : Value), BindsTo s fd ⟨[v], []⟩ [("script", v)]) ∧ ∀ base : Heap, K.In base → base.Ns mainGlobals mg → FnOk l.prog w K mg base CX0 18 fa fd ["script"] (sp_law K) := by
  have e := hfa.symm.trans (PySem.W.mg_of X G a32)
  cases e
  have F0 := fun_mk (st := s_is_number) l0 c0 k0
  have b0 := F0.binds (ps := ["value"]) fun _ _ _ _ _ _ us hl => match us, hl with | [_], _ => rfl
  have F1 := fun_mk (st := s_is_within) l1 c1 k1
  have b1 := F1.binds (ps := ["value", "least", "most"]) fun _ _ _ _ _ _ us hl => match us, hl with | [_, _, _], _ => rfl
  have F2 := fun_mk (st := s_are_indices) l2 c2 k2
  have b2 := F2.binds (ps := ["value", "many"]) fun _ _ _ _ _ _ us hl => match us, hl with | [_, _], _ => rfl
  have F3 := fun_mk (st := s_are_ascending) l3 c3 k3
  have b3 := F3.binds (ps := ["row"]) fun _ _ _ _ _ _ us hl => match us, hl with | [_], _ => rfl
  have F4 := fun_mk (st := s_is_made_of) l4 c4 k4
  have b4 := F4.binds (ps := ["value", "signs", "most"]) fun _ _ _ _ _ _ us hl => match us, hl with | [_, _, _], _ => rfl
  have F5 := fun_mk (st := s_is_plain) l5 c5 k5
  have b5 := F5.binds (ps := ["value"]) fun _ _ _ _ _ _ us hl => match us, hl with | [_], _ => rfl
  have F6 := fun_mk (st := s_is_plain_within) l6 c6 k6
  have b6 := F6.binds (ps := ["value", "most"]) fun _ _ _ _ _ _ us hl => match us, hl with | [_, _], _ => rfl
  have F7 := fun_mk (st := s_is_single) l7 c7 k7
  have b7 := F7.binds (ps := ["value"]) fun _ _ _ _ _ _ us hl => match us, hl with | [_], _ => rfl
  have F8 : FunD K "check_number" "check_number" (defArgs s_check_number) (defBody s_check_number) (defScope s_check_number) [.int (999999999999999999999999999999999999999999999999999999999999)] [] f8 _ := ⟨⟨oc8, od8, .ref dt8, kV8, dc8, pm8, an8, cd8, ct8, sl8, rfl, l8, c8, .inr ⟨by simp, dt8, _, [.int (999999999999999999999999999999999999999999999999999999999999) dk8_0], dn8, rfl, d8, rfl, (.cons ⟨_, rfl⟩ .nil)⟩, .inl rfl⟩, k8⟩
  obtain ⟨ds8, hv8, b8⟩ := F8.binds1 (ps := ["given", "least", "most"]) 3 1 (by simp) rfl fun _ _ _ _ _ _ _ us its hu hi => match us, hu, its, hi with | [_, _, _], _, [_], _ => ⟨_, rfl, rfl⟩
  cases hv8
  have dd8 := F8.binds1 (ps := ["given", "least", "most"]) 2 0 (by simp) rfl fun _ _ _ _ _ _ _ us its hu hi => match us, hu, its, hi with | [_, _], _, [_], _ => ⟨_, rfl, rfl⟩
  have F9 := fun_mk (st := s_is_block) l9 c9 k9
  have b9 := F9.binds (ps := ["value"]) fun _ _ _ _ _ _ us hl => match us, hl with | [_], _ => rfl
  have F10 := fun_mk (st := s_are_blocks) l10 c10 k10
  have b10 := F10.binds (ps := ["value", "least"]) fun _ _ _ _ _ _ us hl => match us, hl with | [_, _], _ => rfl
  have F11 := fun_mk (st := s_Disk_init) l11 c11 k11
  have b11 := F11.binds (ps := ["self", "blocks"]) fun _ _ _ _ _ _ us hl => match us, hl with | [_, _], _ => rfl
  have F12 := fun_mk (st := s_Disk_empty) l12 c12 k12
  have b12 := F12.binds (ps := ["cls", "many"]) fun _ _ _ _ _ _ us hl => match us, hl with | [_, _], _ => rfl
  have F13 := fun_mk (st := s_Disk_sure) l13 c13 k13
  have b13 := F13.binds (ps := ["self"]) fun _ _ _ _ _ _ us hl => match us, hl with | [_], _ => rfl
  have F14 := fun_mk (st := s_Disk_waiting) l14 c14 k14
  have b14 := F14.binds (ps := ["self"]) fun _ _ _ _ _ _ us hl => match us, hl with | [_], _ => rfl
  have F15 := fun_mk (st := s_Disk_put) l15 c15 k15
  have b15 := F15.binds (ps := ["self", "place", "block"]) fun _ _ _ _ _ _ us hl => match us, hl with | [_, _, _], _ => rfl
  have F16 := fun_mk (st := s_Disk_read) l16 c16 k16
  have b16 := F16.binds (ps := ["self", "place"]) fun _ _ _ _ _ _ us hl => match us, hl with | [_, _], _ => rfl
  have F17 := fun_mk (st := s_Disk_blocks) l17 c17 k17
  have b17 := F17.binds (ps := ["self"]) fun _ _ _ _ _ _ us hl => match us, hl with | [_], _ => rfl
  have F18 := fun_mk (st := s_Disk_synced) l18 c18 k18
  have b18 := F18.binds (ps := ["self"]) fun _ _ _ _ _ _ us hl => match us, hl with | [_], _ => rfl
  have F19 := fun_mk (st := s_Disk_fallen) l19 c19 k19
  have b19 := F19.binds (ps := ["self", "kept"]) fun _ _ _ _ _ _ us hl => match us, hl with | [_, _], _ => rfl
  have F20 := fun_mk (st := s_Disk_len) l20 c20 k20
  have b20 := F20.binds (ps := ["self"]) fun _ _ _ _ _ _ us hl => match us, hl with | [_], _ => rfl
  have F21 := fun_mk (st := s_Disk_eq) l21 c21 k21
  have b21 := F21.binds (ps := ["self", "other"]) fun _ _ _ _ _ _ us hl => match us, hl with | [_, _], _ => rfl
  have F22 := fun_mk (st := s_Disk_str) l22 c22 k22
  have b22 := F22.binds (ps := ["self"]) fun _ _ _ _ _ _ us hl => match us, hl with | [_], _ => rfl
  have F23 := fun_mk (st := s_made) l23 c23 k23
  have b23 := F23.binds (ps := ["sure", "waiting"]) fun _ _ _ _ _ _ us hl => match us, hl with | [_, _], _ => rfl
  have F24 := fun_mk (st := s_behind) l24 c24 k24
  have b24 := F24.binds (ps := ["sure", "puts"]) fun _ _ _ _ _ _ us hl => match us, hl with | [_, _], _ => rfl
  have F25 := fun_mk (st := s_law_dice) l25 c25 k25
  have b25 := F25.binds (ps := ["script", "spot"]) fun _ _ _ _ _ _ us hl => match us, hl with | [_, _], _ => rfl
  have F26 := fun_mk (st := s_law_roll) l26 c26 k26
  have b26 := F26.binds (ps := ["dice", "most"]) fun _ _ _ _ _ _ us hl => match us, hl with | [_, _], _ => rfl
  have F27 := fun_mk (st := s_law_pick) l27 c27 k27
  have b27 := F27.binds (ps := ["dice", "items"]) fun _ _ _ _ _ _ us hl => match us, hl with | [_, _], _ => rfl
  have F28 := fun_mk (st := s_law_block_drawn) l28 c28 k28
  have b28 := F28.binds (ps := ["dice"]) fun _ _ _ _ _ _ us hl => match us, hl with | [_], _ => rfl
  have F29 := fun_mk (st := s_law_is_right) l29 c29 k29
  have b29 := F29.binds (ps := ["disk", "sure", "waiting"]) fun _ _ _ _ _ _ us hl => match us, hl with | [_, _, _], _ => rfl
  have F30 := fun_mk (st := s_law_next) l30 c30 k30
  have b30 := F30.binds (ps := ["dice", "disk", "sure", "waiting"]) fun _ _ _ _ _ _ us hl => match us, hl with | [_, _, _, _], _ => rfl
  have F31 := fun_mk (st := s_law_right) l31 c31 k31
  have b31 := F31.binds (ps := ["dice"]) fun _ _ _ _ _ _ us hl => match us, hl with | [_], _ => rfl
  have F32 := fun_mk (st := s_law) l32 c32 k32
  have b32 := F32.binds (ps := ["script"]) fun _ _ _ _ _ _ us hl => match us, hl with | [_], _ => rfl
  have T : Txt K mg ⟨CDisk, f0, f1, f2, f3, f4, f5, f6, f7, f8, f9, f10, f11, f12, f13, f14, f15, f16, f17, f18, f19, f20, f21, f22, f23, f24, f25, f26, f27, f28, f29, f30, f31, fa⟩ ⟨_, _, _, _, _, _, _, _, _, _, _, _, _, _, _, _, _, _, _, _, _, _, _, _, _, _, _, _, _, _, _, _, _⟩ :=
    ⟨PySem.W.mg_of X G a0,
     F0,
     b0,
     PySem.W.mg_of X G a1,
     F1,
     b1,
     PySem.W.mg_of X G a2,
     F2,
     b2,
     PySem.W.mg_of X G a3,
     F3,
     b3,
     PySem.W.mg_of X G a4,
     F4,
     b4,
     PySem.W.mg_of X G a5,
     F5,
     b5,
     PySem.W.mg_of X G a6,
     F6,
     b6,
     PySem.W.mg_of X G a7,
     F7,
     b7,
     PySem.W.mg_of X G a8,
     F8,
     dd8,
     b8,
     PySem.W.mg_of X G a9,
     F9,
     b9,
     PySem.W.mg_of X G a10,
     F10,
     b10,
     F11,
     b11,
     F12,
     b12,
     F13,
     b13,
     F14,
     b14,
     F15,
     b15,
     F16,
     b16,
     F17,
     b17,
     F18,
     b18,
     F19,
     b19,
     F20,
     b20,
     F21,
     b21,
     F22,
     b22,
     PySem.W.mg_of X G a23,
     F23,
     b23,
     PySem.W.mg_of X G a24,
     F24,
     b24,
     PySem.W.mg_of X G a25,
     F25,
     b25,
     PySem.W.mg_of X G a26,
     F26,
     b26,
     PySem.W.mg_of X G a27,
     F27,
     b27,
     PySem.W.mg_of X G a28,
     F28,
     b28,
     PySem.W.mg_of X G a29,
     F29,
     b29,
     PySem.W.mg_of X G a30,
     F30,
     b30,
     PySem.W.mg_of X G a31,
     F31,
     b31,
     PySem.W.mg_of X G a32,
     F32,
     b32,
     PySem.W.mg_of X G aCDisk,
     ⟨zDiskpg, zDiskhd, zDiskpo, zDisksa⟩,
     ⟨zDiskmk, a11, i11, zDiskkc⟩,
     ⟨zDiskca, zDiskcg, zDiskct, zDiskco⟩,
     ⟨zDiskrd, zDiskga⟩,
     zDiskkNoneType,
     zDiskfNoneType,
     zDiskktuple,
     zDiskftuple,
     zDiskne,
     zDiskno_sure,
     zDiskno_waiting,
     ⟨a11, i11, k11⟩,
     ⟨_, a12, ⟨_, r12⟩, g12⟩,
     ⟨_, a13, g13, t13, _, r13⟩,
     ⟨_, a14, g14, t14, _, r14⟩,
     ⟨a15, i15, k15⟩,
     ⟨a16, i16, k16⟩,
     ⟨a17, i17, k17⟩,
     ⟨a18, i18, k18⟩,
     ⟨a19, i19, k19⟩,
     ⟨a20, i20, k20⟩,
     ⟨a21, i21, k21⟩,
     ⟨a22, i22, k22⟩,
     ⟨_, PySem.W.mg_of X G x0⟩,
     ⟨_, PySem.W.mg_of X G x1⟩,
     ⟨_, PySem.W.mg_of X G x2⟩,
     ⟨_, PySem.W.mg_of X G x3⟩,
     ⟨_, PySem.W.mg_of X G x4⟩,
     ⟨_, PySem.W.mg_of X G x5⟩,
     PySem.W.mg_none_of X G y0,
     PySem.W.mg_none_of X G y1,
     PySem.W.mg_none_of X G y2,
     PySem.W.mg_none_of X G y3,
     PySem.W.mg_none_of X G y4,
     PySem.W.mg_none_of X G y5,
     PySem.W.mg_none_of X G y6,
     PySem.W.mg_none_of X G y7,
     PySem.W.mg_none_of X G y8,
     PySem.W.mg_none_of X G y9,
     PySem.W.mg_none_of X G y10,
     PySem.W.mg_none_of X G y11,
     PySem.W.mg_none_of X G y12⟩
  exact ⟨PySem.W.fnOf "law" "law" (defArgs s_law) (defBody s_law) (defScope s_law) .none kV32 dc32 pm32 an32 cd32 ct32, fun s v => .of_eq rfl, fun base _ _ => ok_law T⟩
theorem walk {l : PySem.W.OpenLaw} {q : Program} {loose : List Str} {XP : (Str → Option Value) → Heap → Prop} {YP : World → Heap → Prop} {d : DefRec} {K : Params → PySem.W.Frag} (hn : l.most = some 63) (hdf : d.params.defaults = [])
    (hY : ∀ (w : World) (h : Heap), YP w h → (K w.params).In h)
    (F : ∀ (w : World) (mg : Str → Option Value) (fa : Addr) (h : Heap), (K w.params).In h → h.Ns mainGlobals mg → mg d.name = some (.ref fa) →
      ∃ fd : FuncData, (∀ (s : Shared) (u : Value), BindsTo s fd ⟨[u], []⟩ [("script", u)]) ∧ ∀ base : Heap, (K w.params).In base → base.Ns mainGlobals mg → FnOk l.prog w (K w.params) mg base CX0 18 fa fd ["script"] (sp_law (K w.params))) :
    PySem.W.WalkO q loose XP YP l.row.toRowW d [] (fun f vs => PySem.call f vs) :=
  L2.walk_of (n := 63) (k := 18) (x := "script") (CX := fun _ => CX0) (sp := fun w => sp_law (K w.params)) hn (by decide) hdf ⟨rfl, by decide, by decide⟩ hY F (fun _ _ a ns hl _ hS => ⟨a, ns, rfl, hS, hl, fun _ => rfl⟩) fun _ _ _ _ _ z => z
end K0
open PySem PySem.W PyProof.Rows
set_option maxRecDepth 100000 in
set_option maxHeartbeats 0 in
theorem PySem.Challenge.cw_halvesmeet_k12_whole_puts_syncs_and_fall_holds : PySem.Challenge.rw_halvesmeet_k12_whole_puts_syncs_and_fall.Holds := by
  w_on; o_law; k_head; (case hw => w_witness2)
  k_fill
  refine K0.walk (l := PySem.Challenge.rw_halvesmeet_k12_whole_puts_syncs_and_fall) rfl rfl (fun w h Y => PySem.W.kIn_of Y) ?F
  case F =>
    intro w mg fa h KX G hmg
    refine' K0.all_mk KX G hmg ?aCDisk ?a0 ?l0 ?c0 ?k0 ?a1 ?l1 ?c1 ?k1 ?a2 ?l2 ?c2 ?k2 ?a3 ?l3 ?c3 ?k3 ?a4 ?l4 ?c4 ?k4 ?a5 ?l5 ?c5 ?k5 ?a6 ?l6 ?c6 ?k6 ?a7 ?l7 ?c7 ?k7 ?a8 ?l8 ?c8 ?k8 ?d8 ?a9 ?l9 ?c9 ?k9 ?a10 ?l10 ?c10 ?k10 ?a11 ?i11 ?l11 ?c11 ?k11 ?a12 ?r12 ?g12 ?l12 ?c12 ?k12 ?a13 ?g13 ?t13 ?r13 ?l13 ?c13 ?k13 ?a14 ?g14 ?t14 ?r14 ?l14 ?c14 ?k14 ?a15 ?i15 ?l15 ?c15 ?k15 ?a16 ?i16 ?l16 ?c16 ?k16 ?a17 ?i17 ?l17 ?c17 ?k17 ?a18 ?i18 ?l18 ?c18 ?k18 ?a19 ?i19 ?l19 ?c19 ?k19 ?a20 ?i20 ?l20 ?c20 ?k20 ?a21 ?i21 ?l21 ?c21 ?k21 ?a22 ?i22 ?l22 ?c22 ?k22 ?a23 ?l23 ?c23 ?k23 ?a24 ?l24 ?c24 ?k24 ?a25 ?l25 ?c25 ?k25 ?a26 ?l26 ?c26 ?k26 ?a27 ?l27 ?c27 ?k27 ?a28 ?l28 ?c28 ?k28 ?a29 ?l29 ?c29 ?k29 ?a30 ?l30 ?c30 ?k30 ?a31 ?l31 ?c31 ?k31 ?a32 ?l32 ?c32 ?k32 ?zDiskpg ?zDiskhd ?zDiskpo ?zDisksa ?zDiskmk ?zDiskkc ?zDiskca ?zDiskcg ?zDiskct ?zDiskco ?zDiskrd ?zDiskga ?zDiskkNoneType ?zDiskfNoneType ?zDiskktuple ?zDiskftuple ?zDiskne ?zDiskno_sure ?zDiskno_waiting ?x0 ?x1 ?x2 ?x3 ?x4 ?x5 ?y0 ?y1 ?y2 ?y3 ?y4 ?y5 ?y6 ?y7 ?y8 ?y9 ?y10 ?y11 ?y12
    (case aCDisk => k_is)
    (case a0 => k_is)
    (case l0 => k_is)
    (case c0 => k_is)
    (case k0 => k_is)
    (case a1 => k_is)
    (case l1 => k_is)
    (case c1 => k_is)
    (case k1 => k_is)
    (case a2 => k_is)
    (case l2 => k_is)
    (case c2 => k_is)
    (case k2 => k_is)
    (case a3 => k_is)
    (case l3 => k_is)
    (case c3 => k_is)
    (case k3 => k_is)
    (case a4 => k_is)
    (case l4 => k_is)
    (case c4 => k_is)
    (case k4 => k_is)
    (case a5 => k_is)
    (case l5 => k_is)
    (case c5 => k_is)
    (case k5 => k_is)
    (case a6 => k_is)
    (case l6 => k_is)
    (case c6 => k_is)
    (case k6 => k_is)
    (case a7 => k_is)
    (case l7 => k_is)
    (case c7 => k_is)
    (case k7 => k_is)
    (case a8 => k_is)
    (case l8 => k_is)
    (case c8 => k_is)
    (case k8 => k_is)
    (case d8 => k_is)
    (case a9 => k_is)
    (case l9 => k_is)
    (case c9 => k_is)
    (case k9 => k_is)
    (case a10 => k_is)
    (case l10 => k_is)
    (case c10 => k_is)
    (case k10 => k_is)
    (case a11 => k_is)
    (case i11 => k_is)
    (case l11 => k_is)
    (case c11 => k_is)
    (case k11 => k_is)
    (case a12 => k_is)
    (case r12 => k_is)
    (case g12 => k_is)
    (case l12 => k_is)
    (case c12 => k_is)
    (case k12 => k_is)
    (case a13 => k_is)
    (case g13 => k_is)
    (case t13 => k_is)
    (case r13 => k_is)
    (case l13 => k_is)
    (case c13 => k_is)
    (case k13 => k_is)
    (case a14 => k_is)
    (case g14 => k_is)
    (case t14 => k_is)
    (case r14 => k_is)
    (case l14 => k_is)
    (case c14 => k_is)
    (case k14 => k_is)
    (case a15 => k_is)
    (case i15 => k_is)
    (case l15 => k_is)
    (case c15 => k_is)
    (case k15 => k_is)
    (case a16 => k_is)
    (case i16 => k_is)
    (case l16 => k_is)
    (case c16 => k_is)
    (case k16 => k_is)
    (case a17 => k_is)
    (case i17 => k_is)
    (case l17 => k_is)
    (case c17 => k_is)
    (case k17 => k_is)
    (case a18 => k_is)
    (case i18 => k_is)
    (case l18 => k_is)
    (case c18 => k_is)
    (case k18 => k_is)
    (case a19 => k_is)
    (case i19 => k_is)
    (case l19 => k_is)
    (case c19 => k_is)
    (case k19 => k_is)
    (case a20 => k_is)
    (case i20 => k_is)
    (case l20 => k_is)
    (case c20 => k_is)
    (case k20 => k_is)
    (case a21 => k_is)
    (case i21 => k_is)
    (case l21 => k_is)
    (case c21 => k_is)
    (case k21 => k_is)
    (case a22 => k_is)
    (case i22 => k_is)
    (case l22 => k_is)
    (case c22 => k_is)
    (case k22 => k_is)
    (case a23 => k_is)
    (case l23 => k_is)
    (case c23 => k_is)
    (case k23 => k_is)
    (case a24 => k_is)
    (case l24 => k_is)
    (case c24 => k_is)
    (case k24 => k_is)
    (case a25 => k_is)
    (case l25 => k_is)
    (case c25 => k_is)
    (case k25 => k_is)
    (case a26 => k_is)
    (case l26 => k_is)
    (case c26 => k_is)
    (case k26 => k_is)
    (case a27 => k_is)
    (case l27 => k_is)
    (case c27 => k_is)
    (case k27 => k_is)
    (case a28 => k_is)
    (case l28 => k_is)
    (case c28 => k_is)
    (case k28 => k_is)
    (case a29 => k_is)
    (case l29 => k_is)
    (case c29 => k_is)
    (case k29 => k_is)
    (case a30 => k_is)
    (case l30 => k_is)
    (case c30 => k_is)
    (case k30 => k_is)
    (case a31 => k_is)
    (case l31 => k_is)
    (case c31 => k_is)
    (case k31 => k_is)
    (case a32 => k_is)
    (case l32 => k_is)
    (case c32 => k_is)
    (case k32 => k_is)
    (case zDiskpg => first | k_is | kit_is)
    (case zDiskhd => first | k_is | kit_is)
    (case zDiskpo => first | k_is | kit_is)
    (case zDisksa => first | k_is | kit_is)
    (case zDiskmk => first | k_is | kit_is)
    (case zDiskkc => first | k_is | kit_is)
    (case zDiskca => first | k_is | kit_is)
    (case zDiskcg => first | k_is | kit_is)
    (case zDiskct => first | k_is | kit_is)
    (case zDiskco => first | k_is | kit_is)
    (case zDiskrd => first | k_is | kit_is)
    (case zDiskga => first | k_is | kit_is)
    (case zDiskkNoneType => first | k_is | kit_is)
    (case zDiskfNoneType => first | k_is | kit_is)
    (case zDiskktuple => first | k_is | kit_is)
    (case zDiskftuple => first | k_is | kit_is)
    (case zDiskne => first | k_is | kit_is)
    (case zDiskno_sure => first | k_is | kit_is)
    (case zDiskno_waiting => first | k_is | kit_is)
    (case x0 => k_is)
    (case x1 => k_is)
    (case x2 => k_is)
    (case x3 => k_is)
    (case x4 => k_is)
    (case x5 => k_is)
    (case y0 => k_is)
    (case y1 => k_is)
    (case y2 => k_is)
    (case y3 => k_is)
    (case y4 => k_is)
    (case y5 => k_is)
    (case y6 => k_is)
    (case y7 => k_is)
    (case y8 => k_is)
    (case y9 => k_is)
    (case y10 => k_is)
    (case y11 => k_is)
    (case y12 => k_is)

