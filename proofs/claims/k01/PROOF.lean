import PyProof.Rows.All
import Wide.All
import OpenK.AllK
import Wide.FinOn
import HandS.Base
import HandS.Call
import HandS.List
import HandS.Comp
import HandS.Ends
import HandS.Iter
import HandS.Words
import HandS.WordsList
import HandS.TryMany
import HandS.ExcField
import HandS.WordsExc
import HandS.Codes
import HandS.EndBits
import HandS.EndTab
import HandS.Head0
import HandS.Head1
import HandS.Head2
import HandS.HeadEnd
import HandS.HeadHook1
import HandS.HeadHook2
import HandS.HeadHook3
import HandS.HeadHook4
import HandS.HeadWalk
import HandS.Dict
import HandS.IsInst
import HandS.More
import HandS.Exc
import HandS.DictComp
import HandS.Walk
import HandS.Text
import KE.DataMinMax
import HandS.SortKw
import HandS.Sort
import HandS.SortOrd
import HandS.TupLen
import HandS.SetFor
import HandS.Style
import KE.KDictZip
import HandS.DictTup
import HandS.ListItems
import KE.KDictPairs
import HandS.Zip
import HandS.Deep
import HandS.Finally
import KE.GoesEnum
import HandS.Lambda
import OpenK.KOps
import HandS.WordsDict
import HandS.OwnEq
import HandS.ExcInit
import KE.SortData
import HandS.SetKeys
import PyProof.ReprReads
import PyProof.ReprRoads
import PyProof.ReprLen
import PyProof.WalksMore
import PyProof.FString5
import PyProof.StrHeap
import PyProof.Rows.StrJoinMade
import PySem.Challenge.RW_lamplight_k01_houses_told
set_option Elab.async false
set_option linter.all false
set_option maxRecDepth 100000
namespace Lamp
open PySem L2
/-! ### the text by names -/
abbrev PR : Program := PySem.Challenge.pw_lamplight_k01_houses_told
def top (i : Nat) : Stmt := PR.main.body.getD i (.Pass ⟨0, 0, 0, 0⟩)
abbrev c_LampError : Stmt := top 1
abbrev c_BadDoors : Stmt := top 2
abbrev m_BadDoors_init : Stmt := inClass (top 2) 0
abbrev c_BadRooms : Stmt := top 3
abbrev m_BadRooms_init : Stmt := inClass (top 3) 0
abbrev c_NoRoom : Stmt := top 4
abbrev m_NoRoom_init : Stmt := inClass (top 4) 0
abbrev c_NotJoined : Stmt := top 5
abbrev m_NotJoined_init : Stmt := inClass (top 5) 0
abbrev c_PackageObject : Stmt := top 10
abbrev s_is_row : Stmt := top 11
abbrev s_is_name : Stmt := top 12
abbrev c_House : Stmt := top 14
abbrev m_House_init : Stmt := inClass (top 14) 0
abbrev m_House_rooms : Stmt := inClass (top 14) 1
abbrev m_House_doors : Stmt := inClass (top 14) 2
abbrev m_House_len : Stmt := inClass (top 14) 3
abbrev m_House_eq : Stmt := inClass (top 14) 4
abbrev m_House_has : Stmt := inClass (top 14) 5
abbrev m_House_near : Stmt := inClass (top 14) 6
abbrev s_beside : Stmt := top 15
abbrev s_need_room : Stmt := top 16
abbrev s_rooms_fault : Stmt := top 17
abbrev s_doors_fault : Stmt := top 18
abbrev s_is_pair_of : Stmt := top 19
abbrev s_leader_of : Stmt := top 20
abbrev s_rooms_by_doors : Stmt := top 21
abbrev s_reach : Stmt := top 22
abbrev s_first_parted : Stmt := top 23
abbrev s_law_start : Stmt := top 25
abbrev s_law_draw : Stmt := top 26
abbrev s_law_pick : Stmt := top 27
abbrev s_law_mixed : Stmt := top 28
abbrev s_law_same : Stmt := top 29
abbrev s_law_loose : Stmt := top 30
abbrev s_law_h_names : Stmt := top 31
abbrev s_law_h_doors : Stmt := top 32
abbrev s_law_h_house : Stmt := top 33
abbrev s_law_h_beside : Stmt := top 34
abbrev s_law_h_way : Stmt := top 35
abbrev s_law_met : Stmt := top 36
abbrev s_law_odd_name : Stmt := top 37
abbrev s_law_odd_door : Stmt := top 38
abbrev s_law_refused_right : Stmt := top 39
abbrev s_law_apart_right : Stmt := top 40
abbrev s_law_beside_right : Stmt := top 41
abbrev s_law_equal_right : Stmt := top 42
abbrev s_law : Stmt := top 43
end Lamp
set_option maxHeartbeats 0
namespace Lamp
open PySem PySem.Spec PyProof.Rows L2
/-! ### what is looked at behind the top -/
def frL {α : Type} : List Addr → (List Addr → α) → α
  | [], k => k []
  | a :: r, k => HandSHeadRun.frNat a fun a => frL r fun r => k (a :: r)
theorem frL_eq {α : Type} : ∀ (l : List Addr) (k : List Addr → α), frL l k = k l
  | [], _ => rfl
  | a :: r, k => by
    show HandSHeadRun.frNat a (fun a => frL r fun r => k (a :: r)) = _
    rw [HandSHeadRun.frNat_eq, frL_eq r]
def frF {α : Type} : PySem.W.Frag → (PySem.W.Frag → α) → α
  | [], k => k []
  | (a, ⟨c, d, dt, sl⟩) :: r, k => HandSHeadRun.frNat a fun a => frF r fun r => k ((a, ⟨c, d, dt, sl⟩) :: r)
theorem frF_eq {α : Type} : ∀ (l : PySem.W.Frag) (k : PySem.W.Frag → α), frF l k = k l
  | [], _ => rfl
  | (a, ⟨c, d, dt, sl⟩) :: r, k => by
    show HandSHeadRun.frNat a (fun a => frF r fun r => k ((a, ⟨c, d, dt, sl⟩) :: r)) = _
    rw [HandSHeadRun.frNat_eq, frF_eq r]
def nextOf (o : Obj) : List Addr := match o.data with
  | .dict es _ => es.toList.flatMap fun e => He.refV e.val
  | .func fd => He.refV fd.code
  | .cls cd => [cd.ns]
  | _ => []
def next (g : Addr → Option Obj) (l : List Addr) : List Addr := l.flatMap fun a => match g a with
  | some o => nextOf o
  | none => []
def lvls {α : Type} (g : Addr → Option Obj) (k : List Addr → α) : α := frL (next g [mainGlobals]) fun l1 => frL (next g l1) fun l2 => frL (next g l2) fun l3 => frL (next g l3) fun l4 => k (mainGlobals :: (l1 ++ (l2 ++ (l3 ++ l4))))
def asY (g : Addr → Option Obj) : List Addr := lvls g id
theorem lvls_eq {α : Type} (g : Addr → Option Obj) (k : List Addr → α) : lvls g k = k (asY g) := by
  unfold asY lvls
  simp only [frL_eq, id]
/-! ### the defs, the facts -/
def topD (x : Str) (i : Nat) : He.DefD := ⟨(x, none), x, x, defArgs (top i), defBody (top i), defScope (top i), [], []⟩
def metD (c x q : Str) (i j : Nat) : He.DefD := ⟨(c, some x), x, q, defArgs (inClass (top i) j), defBody (inClass (top i) j), defScope (inClass (top i) j), [], []⟩
def fn0 : List He.DefD := [metD "BadDoors" "__init__" "BadDoors.__init__" 2 0, metD "BadRooms" "__init__" "BadRooms.__init__" 3 0, metD "NoRoom" "__init__" "NoRoom.__init__" 4 0, metD "NotJoined" "__init__" "NotJoined.__init__" 5 0, topD "is_row" 11, topD "is_name" 12, metD "House" "__init__" "House.__init__" 14 0, metD "House" "rooms" "House.rooms" 14 1, metD "House" "doors" "House.doors" 14 2, metD "House" "__len__" "House.__len__" 14 3, metD "House" "__eq__" "House.__eq__" 14 4, metD "House" "has" "House.has" 14 5, metD "House" "near" "House.near" 14 6, topD "beside" 15]
def fn1 : List He.DefD := [topD "need_room" 16, topD "rooms_fault" 17, topD "doors_fault" 18, topD "is_pair_of" 19, topD "leader_of" 20, topD "rooms_by_doors" 21, topD "reach" 22, topD "first_parted" 23, topD "_law_start" 25, topD "_law_draw" 26, topD "_law_pick" 27, topD "_law_mixed" 28, topD "_law_same" 29, topD "_law_loose" 30]
def fn2 : List He.DefD := [topD "_law_h_names" 31, topD "_law_h_doors" 32, topD "_law_h_house" 33, topD "_law_h_beside" 34, topD "_law_h_way" 35, topD "_law_met" 36, topD "_law_odd_name" 37, topD "_law_odd_door" 38, topD "_law_refused_right" 39, topD "_law_apart_right" 40, topD "_law_beside_right" 41, topD "_law_equal_right" 42, topD "law" 43]
def fn : List He.DefD := fn0 ++ (fn1 ++ (fn2))
def fa0 : List He.Fa := [.free "int", .free "list", .free "len", .free "range", .free "isinstance", .free "tuple", .free "str", .free "all", .free "enumerate", .free "sorted", .free "min", .free "max", .free "dict", .free "bool"]
def fa1 : List He.Fa := [.free "sum", .free "zip", .free "any", .free "repr", .glo "BadDoors", .glo "BadRooms", .glo "NoRoom", .glo "NotJoined", .str "LETTERS" "abcdefghijklmnopqrstuvwxyz", .str "FIGURES" "0123456789", .int "LONGEST_NAME" 12, .glo "is_row", .glo "is_name", .glo "House"]
def fa2 : List He.Fa := [.cls "House", .mkr "House", .noat "House" "_rooms", .noat "House" "_doors", .noat "House" "_near", .meth "House" "rooms", .meth "House" "doors", .meth "House" "__len__", .meth "House" "__eq__", .meth "House" "has", .meth "House" "near", .glo "beside", .glo "need_room", .glo "rooms_fault"]
def fa3 : List He.Fa := [.glo "doors_fault", .glo "is_pair_of", .glo "leader_of", .glo "rooms_by_doors", .glo "reach", .glo "first_parted", .glo "_law_start", .glo "_law_draw", .glo "_law_pick", .glo "_law_mixed", .glo "_law_same", .glo "_law_loose", .glo "_law_h_names", .glo "_law_h_doors"]
def fa4 : List He.Fa := [.glo "_law_h_house", .glo "_law_h_beside", .glo "_law_h_way", .glo "_law_met", .glo "_law_odd_name", .glo "_law_odd_door", .glo "_law_refused_right", .glo "_law_apart_right", .glo "_law_beside_right", .glo "_law_equal_right", .glo "law"]
def fa : List He.Fa := fa0 ++ (fa1 ++ (fa2 ++ (fa3 ++ (fa4))))
def nms0 : List Str := ["LampError", "BadDoors", "BadRooms", "NoRoom", "NotJoined", "LETTERS", "FIGURES", "LONGEST_NAME", "PackageObject", "is_row", "is_name", "House", "beside", "need_room"]
def nms1 : List Str := ["rooms_fault", "doors_fault", "is_pair_of", "leader_of", "rooms_by_doors", "reach", "first_parted", "_law_start", "_law_draw", "_law_pick", "_law_mixed", "_law_same", "_law_loose", "_law_h_names"]
def nms2 : List Str := ["_law_h_doors", "_law_h_house", "_law_h_beside", "_law_h_way", "_law_met", "_law_odd_name", "_law_odd_door", "_law_refused_right", "_law_apart_right", "_law_beside_right", "_law_equal_right"]
def nms : List Str := nms0 ++ (nms1 ++ (nms2))
def tf : List He.Defn := [("_law_refused_right", none), ("_law_apart_right", none), ("_law_beside_right", none)]
/-! ### own facts -/
def oexB (K : PySem.W.Frag) (C : Addr) : Bool := match K.lookup C with
  | some ⟨.type t, _, .cls cd, sl⟩ => decide (t = "type") && ((match sl.toList with
    | [_, _, _, _, some (.builtin n), _] => decide (n = "ValueError.__new__")
    | _ => false) && (cd.hasDict && (!cd.hasDel && (match cd.mro with
      | .ref C' :: bm => Nat.beq C' C && PySem.HandSPX.refsVE bm
      | _ => false))))
  | _ => false
def badB (K : PySem.W.Frag) (C : Addr) (f : Str) : Bool := oexB K C && (He.eqO (PySem.W.findIn K (.ref C) "__setattr__") (some (some (.builtin "object.__setattr__"))) && (decide (PySem.W.subIn K (.ref C) (.type "BaseException") = some true) && (decide (PySem.W.typeIn K (.ref C) = some (.type "type")) && (PySem.W.keepIn K (.ref C) &&
  (He.eqO (PySem.W.findIn K (.ref C) f) (some none) && (He.eqO (PySem.W.findIn K (.ref C) "__init__") (some (some (.ref (He.ma K C "__init__")))) && (decide (PySem.W.typeIn K (.ref (He.ma K C "__init__")) = some (.type "function")) && (xfB K C && decide (PySem.W.exmOne K (.ref C) (.ref C) = some true)))))))))
def house4B (K : PySem.W.Frag) (C : Addr) : Bool := He.eqO (PySem.W.findIn K (.ref C) "__class__") (some (some (.builtin "object.__class__"))) && (He.eqO (PySem.W.specialIn K (.builtin "object.__class__") "__get__") (some (some (.builtin "getset_descriptor.__get__"))) &&
  (decide (PySem.W.takesIn K (.builtin "object.__class__") = some true) && (decide (PySem.W.mroIn K C (.type "object") = some true) && decide (PySem.W.kitOne K (.ref C) (.ref C) = some true))))
def notB (K : PySem.W.Frag) (C C' : Addr) : Bool := decide (PySem.W.exmOne K (.ref C) (.ref C') = some false)
def crossL (K : PySem.W.Frag) (L : List (Str × Addr)) : Bool := L.all fun p => L.all fun q => decide (p.1 = q.1) || notB K p.2 q.2
def tyB (K : PySem.W.Frag) (C : Addr) (t : String) : Bool := decide (PySem.W.kitOne K (.type t) (.ref C) = some false) && PySem.W.notFirst K C (.type t)
def metB (K : PySem.W.Frag) (C : Addr) (x : Str) : Bool := He.eqO (PySem.W.findIn K (.ref C) x) (some (some (.ref (He.ma K C x)))) && PySem.W.isFn K (.ref (He.ma K C x))
def eq1B (K : PySem.W.Frag) (C : Addr) : Bool := tyB K C "NoneType" && (tyB K C "int" && (tyB K C "list" && (tyB K C "dict" && (tyB K C "str" && (PySem.W.notFirst K C (.ref C) && (metB K C "__eq__" && (metB K C "__len__" && He.eqO (PySem.W.findIn K (.ref C) "__ne__") (some (some (.builtin "object.__ne__"))))))))))
def tabB3 (K : PySem.W.Frag) : Bool := !(Nat.beq (He.cT K ("_law_refused_right", none)).2 (He.cT K ("_law_apart_right", none)).2) && (!(Nat.beq (He.cT K ("_law_refused_right", none)).2 (He.cT K ("_law_beside_right", none)).2) && !(Nat.beq (He.cT K ("_law_apart_right", none)).2 (He.cT K ("_law_beside_right", none)).2))
def exB (K : PySem.W.Frag) : Bool := HandSHeadRun.frNat (He.ga K "House") fun C => HandSHeadRun.frNat (He.ga K "BadRooms") fun CR => HandSHeadRun.frNat (He.ga K "BadDoors") fun CD => HandSHeadRun.frNat (He.ga K "NotJoined") fun CN => HandSHeadRun.frNat (He.ga K "NoRoom") fun CM =>
  house4B K C && (badB K CR "index" && (badB K CD "index" && (badB K CN "room" && (badB K CM "thing" && (crossL K [("BadRooms", CR), ("BadDoors", CD), ("NotJoined", CN), ("NoRoom", CM)] && (tabB3 K && eq1B K C))))))
/-! ### the hook -/
def obY (fa : List He.Fa) (fn : List He.DefD) (tf : List He.Defn) (ex : PySem.W.Frag → Bool) (g : Addr → Option Obj) : He.AlX := lvls g fun l => frF (He.frT g l) fun K => (He.obsT fa fn [] K, ex K && He.tabsB g tf K)
theorem saysY {fa : List He.Fa} {fn : List He.DefD} {tf : List He.Defn} {ex : PySem.W.Frag → Bool} {w : World} {h : Heap} (e : obY fa fn tf ex h.get? = He.valX fn [] w) : He.SaysX fa fn [] tf ex w h (He.frT h.get? (asY h.get?)) := by
  unfold obY at e
  rw [lvls_eq, frF_eq] at e
  obtain ⟨e1, e2⟩ := Prod.mk.inj e
  obtain ⟨h1, h2⟩ := He.ba e2
  have z : ∀ p ∈ tf, PySem.W.codeHdIn (He.frT h.get? (asY h.get?)) (He.cT (He.frT h.get? (asY h.get?)) p).1 (He.cT (He.frT h.get? (asY h.get?)) p).2 = true ∧ (∃ o, h.get? (He.cT (He.frT h.get? (asY h.get?)) p).2 = some o ∧ He.emptyTab o = true) := by
    intro p hp
    have h3 := List.all_eq_true.mp h2 p hp
    obtain ⟨a, b⟩ := He.ba h3
    refine ⟨a, ?_⟩
    split at b
    · rename_i o q
      exact ⟨o, q, b⟩
    · cases b
  constructor
  · exact e1
  · exact h1
  · intro p hp
    exact (z p hp).1
  · intro p hp
    obtain ⟨o, q, t⟩ := (z p hp).2
    exact He.frT_none q t
  · intro p hp
    obtain ⟨o, q, t⟩ := (z p hp).2
    rw [q, He.emptyTab_eq t]
def hookY (fa : List He.Fa) (fn : List He.DefD) (tf : List He.Defn) (ex : PySem.W.Frag → Bool) : PySem.W.Hook where
  α := He.AlX
  obs := fun s => obY fa fn tf ex s.heap.get?
  val := fun w => He.valX fn [] w
  says := fun w h => ∃ K : PySem.W.Frag, K.In h ∧ He.SaysX fa fn [] tf ex w h K
  of := fun _ _ e => ⟨_, He.frT_in, saysY e⟩
  keeps := by
    rintro _ _ _ ⟨K, hK, c⟩ k
    exact ⟨K, hK.keeps k, c.t, c.more, c.hd, c.out, fun p hp => k _ _ (c.empty p hp)⟩
abbrev R : PySem.W.OpenRow := PySem.W.OpenLaw.row PySem.Challenge.rw_lamplight_k01_houses_told
abbrev hk : PySem.W.Hook := hookY fa fn tf exB
def ob (s : PySem.W.SharedT) : He.AlX := obY fa fn tf exB (HandSHeadRun.getT s)
theorem ob_eq (s : PySem.W.SharedT) : ob s = hk.obs s.abs := by
  have e : HandSHeadRun.getT s = s.abs.heap.get? := funext (HandSHeadRun.getT_eq s)
  unfold ob
  rw [e]
  rfl

/-! ### the looks, one by one -/
def lookK {α : Type} (g : Addr → Option Obj) (f : PySem.W.Frag → α) : α := lvls g fun l => frF (He.frT g l) f
theorem lookK_eq {α : Type} (g : Addr → Option Obj) (f : PySem.W.Frag → α) : lookK g f = f (He.frT g (asY g)) := by
  unfold lookK
  rw [lvls_eq, frF_eq]
abbrev qV : Program := PySem.W.view R.prog [43]
noncomputable def endW (w : World) (os : OsState) : Option PySem.W.SharedT := HandSHeadRun.endF (HandSHeadRun.stepQ (HandSHeadRun.denQ HandSHeadRun.tabQ) R.prog w) 40000 R.prog w os
abbrev dLaw : DefRec := HandSHeadRun.topDef R.prog 43
end Lamp
set_option maxHeartbeats 0
namespace Lamp
open PySem PySem.W PySem.Spec PySem.Calls PyProof.Rows L2
theorem run1 (w : World) (os : OsState) : (endW w os).map (fun s => (HandSHeadRun.looksF R.prog (PySem.W.boot_heap w.params) s.abs, HandSHeadRun.seenQ qV nms (importedModules R.prog.main.body) (fun s => PySem.W.xlAt qV [] s && PySem.W.recOk R.toRowW.records s) s.abs)) = some (true, PySem.W.openGood qV nms) := by
  kernel_rfl
end Lamp
set_option maxHeartbeats 0
namespace Lamp
open PySem PySem.W PySem.Spec PySem.Calls PyProof.Rows L2
theorem run2 (w : World) (os : OsState) : (endW w os).map (fun s => lookK (HandSHeadRun.getT s) fun K => (fa.all fun f => f.ok K)) = some true := by
  kernel_rfl
end Lamp
set_option maxHeartbeats 0
namespace Lamp
open PySem PySem.W PySem.Spec PySem.Calls PyProof.Rows L2
theorem run3 (w : World) (os : OsState) : (endW w os).map (fun s => lookK (HandSHeadRun.getT s) fun K => (fn.all fun d => d.ok K, fn.map fun d => He.fnW K d.at_)) = some (true, fn.map He.DefD.val) := by
  kernel_rfl
end Lamp
set_option maxHeartbeats 0
namespace Lamp
open PySem PySem.W PySem.Spec PySem.Calls PyProof.Rows L2
theorem run4 (w : World) (os : OsState) : (endW w os).map (fun s => lookK (HandSHeadRun.getT s) fun K => exB K && He.tabsB (HandSHeadRun.getT s) tf K) = some true := by
  kernel_rfl
end Lamp
set_option maxHeartbeats 4000000
namespace Lamp
open PySem L2
abbrev sStart : Stmt := s_law_start
abbrev sDraw : Stmt := s_law_draw
abbrev sMixed : Stmt := s_law_mixed
/-! ### the spring of draws -/
/-- the spring at a, its cells' list at l, n draws so far -/
structure Spr (H : Hp) (a l : Addr) (n : Nat) : Prop where
  ne : a ≠ l
  ob : ∃ (cs : List Int) (cur mix : Int), H a = some (.lst [.ref l, .int cur, .int (n : Int), .int mix]) ∧ H l = some (.lst (cs.map V.int)) ∧ 0 ≤ mix ∧ mix < 2147483647
/-- all that was tracked is as it was, but for the spring (a list of cells that is empty stays) -/
def Sb (a l : Addr) (H H' : Hp) : Prop := ∀ b o, H b = some o → b ≠ a → (b = l → o = .lst []) → H' b = some o
theorem Sb.refl {a l : Addr} (H : Hp) : Sb a l H H := fun _ _ h _ _ => h
theorem Sb.trans {a l : Addr} {H H1 H2 : Hp} (p : Sb a l H H1) (q : Sb a l H1 H2) : Sb a l H H2 := fun b o h x y => q b o (p b o h x y) x y
theorem Same.sb {a l : Addr} {H H' : Hp} (p : Same H H') : Sb a l H H' := fun b o h _ _ => p b o h
theorem Spr.ra {H : Hp} {a l : Addr} {n : Nat} (s : Spr H a l n) : ∃ o, H a = some o := by
  obtain ⟨_, _, _, h, _⟩ := s.ob
  exact ⟨_, h⟩
theorem Spr.rl {H : Hp} {a l : Addr} {n : Nat} (s : Spr H a l n) : ∃ o, H l = some o := by
  obtain ⟨_, _, _, _, h, _⟩ := s.ob
  exact ⟨_, h⟩
theorem Spr.na {H : Hp} {a l p : Addr} {n : Nat} (s : Spr H a l n) (h : H p = none) : p ≠ a := by
  obtain ⟨o, e⟩ := s.ra
  intro z
  rw [z, e] at h
  cases h
theorem Spr.nl {H : Hp} {a l p : Addr} {n : Nat} (s : Spr H a l n) (h : H p = none) : p ≠ l := by
  obtain ⟨o, e⟩ := s.rl
  intro z
  rw [z, e] at h
  cases h
/-- the spring stands while nothing is stored into it -/
theorem Spr.stay {H H' : Hp} {a l : Addr} {n : Nat} (s : Spr H a l n) (h : Same H H') : Spr H' a l n := by
  obtain ⟨ne, cs, cur, mix, h1, h2, h3, h4⟩ := s
  exact ⟨ne, cs, cur, mix, h _ _ h1, h _ _ h2, h3, h4⟩
theorem Spr.updN {H : Hp} {a l p : Addr} {n : Nat} {o : HO} (s : Spr H a l n) (pa : p ≠ a) (pl : p ≠ l) : Spr (upd H p o) a l n := by
  obtain ⟨ne, cs, cur, mix, h1, h2, h3, h4⟩ := s
  exact ⟨ne, cs, cur, mix, by rw [upd_ne pa.symm]; exact h1, by rw [upd_ne pl.symm]; exact h2, h3, h4⟩
theorem Sb.upd {H : Hp} {a l p : Addr} {o : HO} (h : H p = none) : Sb a l H (upd H p o) := fun b u e _ _ => by
  rw [upd_ne (ne_of_none e h)]
  exact e

def spStart (K : PySem.W.Frag) : Sp := fun vs H Q _ => ∃ (p : Addr) (ns : List Int), vs = [.ref p] ∧ SqL K H p (ns.map V.int) ∧ ∀ H' a l, Same H H' → H a = none → H l = none → Spr H' a l 0 → Q (.ref a) H'
def spDraw : Sp := fun vs H Q _ => ∃ (a l : Addr) (n : Nat) (m : Int), vs = [.ref a, .int m] ∧ Spr H a l n ∧ n ≤ 1000000 ∧ 1 ≤ m ∧ m < 1000000 ∧
  ∀ H' d, Sb a l H H' → Spr H' a l (n + 1) → 0 ≤ d → d < m → Q (.int d) H'
/-- what the top has written -/
structure TxtS (mg : Str → Option Value) : Prop where
  int : mg "int" = none
  list : mg "list" = none
  len : mg "len" = none
  range : mg "range" = none
theorem while_ex {c : TT} {tb : TS} {D : Ends} {σ : St} {H : Hp} (Ex : St → Hp → Prop) (hd : ∀ σ H, Ex σ H → D.nx σ H) (k : (∀ σ H, Ex σ H → D.nx σ H) → tWhile c tb D σ H) : tWhile c tb D σ H := k hd
theorem dpAll_ints {K : PySem.W.Frag} {H : Hp} : ∀ cs : List Int, DpAll K H (cs.map V.int) (cs.map PyData.int)
  | [] => .nil
  | c :: cs => .cons (.int c) (dpAll_ints cs)
theorem lay_ints : ∀ cs : List Int, PyData.canLayAll0 (cs.map PyData.int) = true
  | [] => rfl
  | c :: cs => by
    show (PyData.canLay0 (.int c) && PyData.canLayAll0 (cs.map PyData.int)) = true
    rw [lay_ints cs]
    rfl
theorem depth_ints (cs : List Int) : PyData.depth (.list (cs.map PyData.int)) ≤ 64 := by
  have e : PyData.depthAll (cs.map PyData.int) = 0 := by
    induction cs with
    | nil => rfl
    | cons c cs ih =>
      show max (PyData.depth (.int c)) (PyData.depthAll (cs.map PyData.int)) = 0
      rw [ih]
      rfl
  show PyData.depthAll (cs.map PyData.int) + 1 ≤ 64
  rw [e]
  decide
theorem shaped_ints (cs : List Int) : SeqAt.shaped (.list (cs.map PyData.int)) = true := by
  show (PyData.canLayAll0 (cs.map PyData.int) && decide (PyData.depth (.list (cs.map PyData.int)) ≤ 64)) = true
  rw [lay_ints, decide_eq_true (depth_ints cs)]
  rfl
section
variable {P : Program} {w : World} {K : PySem.W.Frag} {mg : Str → Option Value} {base : Heap}
theorem scS : FnScope ["script"] ["script"] (defScope sStart) := ⟨rfl, rfl, rfl, by decide +kernel, rfl, by decide +kernel, by decide +kernel⟩
theorem ok_start {f : Addr} {fd : FuncData} (F : Fun K "_law_start" "_law_start" sStart f fd) (T : TxtS mg) : FnOk P w K mg base CX0 1 f fd ["script"] (spStart K) := by
  refine F.ok scS (fun vs H Q E h => ?_) (fun cdv A outer s H vs Q E hr h => ?_)
  · obtain ⟨p, ns, rfl, _⟩ := h
    rfl
  · obtain ⟨p, ns, rfl, hS, k⟩ := h
    refine ⟨_, pss_one (ps_ret (pe_lst (pa_cons (pe_callTy call_list_of (by rfl) T.list (by decide +kernel) (pa_cons (pv 0) pa_nil)) (pa_cons pe_int (pa_cons pe_int (pa_cons pe_int pa_nil)))))), ?_⟩
    refine ⟨_, rfl, p, _, rfl, .inl hS, fun l hl => ?_⟩
    refine ⟨(by show 4 ≤ sizeLine; decide), fun a ha => ?_⟩
    have nla : l ≠ a := fun z => by
      rw [← z, upd_same] at ha
      cases ha
    have ha0 : H a = none := by
      rw [upd_ne nla.symm] at ha
      exact ha
    refine k _ a l (fun b o e => ?_) ha0 hl ⟨nla.symm, ns, 0, 11, upd_same, ?_, by decide, by decide⟩
    · rw [upd_ne (ne_of_none e ha0), upd_ne (ne_of_none e hl)]
      exact e
    · rw [upd_ne nla, upd_same]

theorem scD : FnScope ["stream", "many", "cell", "digit", "mixed"] ["stream", "many"] (defScope sDraw) := ⟨rfl, rfl, rfl, by decide +kernel, rfl, by decide +kernel, by decide +kernel⟩
theorem ok_draw {f : Addr} {fd : FuncData} (F : Fun K "_law_draw" "_law_draw" sDraw f fd) (T : TxtS mg) : FnOk P w K mg base CX0 1 f fd ["stream", "many"] spDraw := by
  refine F.ok scD (fun vs H Q E h => ?_) (fun cdv A outer s H vs Q E hr h => ?_)
  · obtain ⟨a, l, n, m, rfl, _⟩ := h
    rfl
  · obtain ⟨a, l, n, m, rfl, hS, hn, hm, hm2, k⟩ := h
    refine ⟨_, pss_cons (ps_asg (pe_op op_add (pe_ix ix_list (pv 0) pe_int (fun _ _ => rfl)) pe_int) (pg_sub (pv 0) pe_int set_list))
      (pss_cons (ps_while PassesOwn.never (PW.pt (pw_and (pt_cmpR op_eq (pe_ix ix_list (pv 0) pe_int (fun _ _ => rfl)) pe_int (nomark _)) (pw_and1 (pt_cmpR (op_neD hr.units) (pe_ix ix_list (pv 0) pe_int (fun _ _ => rfl)) (pe_lst pa_nil) (nomark _)))))
        (pss_cons (ps_set (i := 2) scD.nd rfl (Or.inl rfl) (pe_bm PySem.F.plainAttrs_list PySem.F.slot_list_pop PySem.F.type_list_pop mt_popAt (pe_ix ix_list (pv 0) pe_int (fun _ _ => rfl)) (pa_cons pe_int pa_nil)))
        (pss_cons (ps_asg (pe_op op_modN (pe_callTy call_int1 (by rfl) T.int (by decide +kernel) (pa_cons (pe_op op_add (pe_op op_add (pe_op op_mul (pe_ix ix_list (pv 0) pe_int (fun _ _ => rfl)) pe_int) (pv 2)) pe_int) pa_nil)) pe_int) (pg_sub (pv 0) pe_int set_list))
        (pss_one (ps_asg (pe_ifExp (pt_cmpR op_ge (pv 2) (pe_op op_pow pe_int pe_int) (nomark _)) (pv 2) pe_int) (pg_sub (pv 0) pe_int set_list))))))
      (pss_cons (ps_if (pt_cmpR op_gt (pe_ix ix_list (pv 0) pe_int (fun _ _ => rfl)) pe_int (nomark _))
        (pss_cons (ps_set (i := 3) scD.nd rfl (Or.inl rfl) (pe_op op_modN (pe_callTy call_int1 (by rfl) T.int (by decide +kernel) (pa_cons (pe_ix ix_list (pv 0) pe_int (fun _ _ => rfl)) pa_nil)) (pv 1)))
        (pss_cons (ps_asg (pe_op op_fdivN (pe_ix ix_list (pv 0) pe_int (fun _ _ => rfl)) (pv 1)) (pg_sub (pv 0) pe_int set_list))
        (pss_one (ps_ret (pv 3))))) pss_nil)
      (pss_cons (ps_set (i := 4) scD.nd rfl (Or.inl rfl) (pe_op op_modN (pe_callTy call_int1 (by rfl) T.int (by decide +kernel) (pa_cons (pe_op op_pow (pe_op op_add (pe_op op_add (pe_ix ix_list (pv 0) pe_int (fun _ _ => rfl)) (pe_op op_mul pe_int (pe_ix ix_list (pv 0) pe_int (fun _ _ => rfl)))) pe_int) pe_int) pa_nil)) pe_int))
      (pss_one (ps_ret (pe_op op_modN (pe_op op_modN (pe_callTy call_int1 (by rfl) T.int (by decide +kernel) (pa_cons (pe_op op_pow (pe_op op_add (pe_op op_add (pe_op op_mul (pv 4) pe_int) (pe_op op_mul pe_int (pe_ix ix_list (pv 0) pe_int (fun _ _ => rfl)))) pe_int) pe_int) pa_nil)) pe_int) (pv 1))))))), ?_⟩
    obtain ⟨ne, cs, cur, mix, h1, h2, h3, h4⟩ := hS
    refine ⟨_, rfl, a, _, 2, .int (n : Int), rfl, rfl, SqL.of h1, rfl, _, _, rfl, rfl, ?_⟩
    refine ⟨_, rfl, a, _, 2, 2, rfl, rfl, h1, rfl, ?_⟩
    refine while_ex (fun σ' H' => ∃ (cs' : List Int) (cur' mix' : Int) (v2 : Option V), σ' = [some (.ref a), some (.int m), v2, none, none] ∧ H' a = some (.lst [.ref l, .int cur', .int ((n : Int) + 1), .int mix']) ∧ H' l = some (.lst (cs'.map V.int)) ∧ 0 ≤ mix' ∧ mix' < 2147483647 ∧ Sb a l H H') ?_ (fun fin => ?_)
    · rintro σ' H' ⟨cs', cur', mix', v2, rfl, g1, g2, g3, g4, gS⟩
      have q0 : ∀ {i : Int}, 0 < i → i ≠ 0 := fun h z => by omega
      refine ⟨_, rfl, a, _, 1, .int cur', rfl, rfl, SqL.of g1, rfl, _, _, rfl, rfl, _, rfl, ?_⟩
      refine ite2 (fun _ => ?_) (fun _ => ?_)
      · refine ⟨_, rfl, a, _, 1, .int cur', rfl, rfl, SqL.of g1, rfl, .inl ⟨_, rfl, _, rfl, _, _, rfl, rfl, q0 (by omega), ?_⟩⟩
        refine ⟨_, rfl, a, _, 1, .int cur', rfl, rfl, SqL.of g1, rfl, _, rfl, _, _, rfl, rfl, ⟨q0 (by omega), by omega⟩, ?_⟩
        refine ⟨_, rfl, a, _, 1, 1, rfl, rfl, g1, rfl, _, rfl, ?_⟩
        exact k _ _ (fun b o e x y => by rw [upd_ne x]; exact gS b o e x y) ⟨ne, cs', _, mix', upd_same, by rw [upd_ne ne.symm]; exact g2, g3, g4⟩ (Int.fmod_nonneg_of_pos _ (by omega)) (Int.fmod_lt_of_pos _ (by omega))
      · have b1 : (0 : Int) ≤ mix' + 7919 * ((n : Int) + 1) + 104729 := by omega
        have b2 : mix' + 7919 * ((n : Int) + 1) + 104729 < 2 ^ 40 := by omega
        refine ⟨_, rfl, a, _, 3, .int mix', rfl, rfl, SqL.of g1, rfl, _, rfl, a, _, 2, .int ((n : Int) + 1), rfl, rfl, SqL.of g1, rfl, _, _, rfl, rfl, .inl ⟨by decide, by decide⟩, _, _, rfl, rfl, _, _, rfl, rfl, _, _, rfl, rfl, ⟨by decide, by decide, (by omega)⟩,
          .inl ⟨_, rfl, _, _, rfl, rfl, q0 (by decide), ?_⟩⟩
        have c1 := Int.fmod_nonneg_of_pos ((mix' + 7919 * ((n : Int) + 1) + 104729) ^ (5 : Int).toNat) (show (0 : Int) < 2147483629 by decide)
        have c2 := Int.fmod_lt_of_pos ((mix' + 7919 * ((n : Int) + 1) + 104729) ^ (5 : Int).toNat) (show (0 : Int) < 2147483629 by decide)
        refine ⟨_, rfl, _, _, rfl, rfl, .inr ⟨by decide, by decide⟩, _, rfl, a, _, 2, .int ((n : Int) + 1), rfl, rfl, SqL.of g1, rfl, _, _, rfl, rfl, .inl ⟨by decide, by decide⟩, _, _, rfl, rfl, _, _, rfl, rfl, _, _, rfl, rfl, ⟨by decide, by decide, (by omega)⟩,
          .inl ⟨_, rfl, _, _, rfl, rfl, q0 (by decide), _, rfl, _, _, rfl, rfl, q0 (by omega), ?_⟩⟩
        exact k _ _ gS ⟨ne, cs', cur', mix', g1, g2, g3, g4⟩ (Int.fmod_nonneg_of_pos _ (by omega)) (Int.fmod_lt_of_pos _ (by omega))
    refine ⟨fun m' σ' H' => ∃ (cs' : List Int) (cur' mix' : Int) (v2 : Option V), σ' = [some (.ref a), some (.int m), v2, none, none] ∧ m' = cs'.length ∧ H' a = some (.lst [.ref l, .int cur', .int ((n : Int) + 1), .int mix']) ∧ H' l = some (.lst (cs'.map V.int)) ∧ 0 ≤ mix' ∧ mix' < 2147483647 ∧ Sb a l H H',
      ⟨_, cs, cur, mix, none, rfl, rfl, upd_same, by rw [upd_ne ne.symm]; exact h2, h3, h4, fun b o e x y => by rw [upd_ne x]; exact e⟩, ?_⟩
    rintro m' σ' H' ⟨cs', cur', mix', v2, rfl, rfl, g1, g2, g3, g4, gS⟩
    refine ⟨_, rfl, a, _, 1, .int cur', rfl, rfl, SqL.of g1, rfl, rfl, _, rfl, ?_⟩
    refine ite2 (fun _ => ?_) (fun _ => iteF (fin _ _ ⟨cs', cur', mix', v2, rfl, g1, g2, g3, g4, gS⟩))
    refine ⟨_, rfl, a, _, 0, .ref l, rfl, rfl, SqL.of g1, rfl, Nat.zero_le _, fun p hp => ?_⟩
    have pa : p ≠ a := fun z => by
      rw [z, g1] at hp
      cases hp
    have pl : p ≠ l := fun z => by
      rw [z, g2] at hp
      cases hp
    have g1' : upd H' p (.lst []) a = some (.lst [.ref l, .int cur', .int ((n : Int) + 1), .int mix']) := by
      rw [upd_ne pa.symm]
      exact g1
    have g2' : upd H' p (.lst []) l = some (.lst (cs'.map V.int)) := by
      rw [upd_ne pl.symm]
      exact g2
    have gS' : Sb a l H (upd H' p (.lst [])) := gS.trans (Sb.upd hp)
    refine ⟨.list (cs'.map PyData.int), .list [], .lst (SqL.of g2') (dpAll_ints cs'), .lst (SqL.of upd_same) .nil, shaped_ints cs', by decide, _, rfl, ?_⟩
    cases cs' with
    | nil => exact iteF (fin _ _ ⟨[], cur', mix', v2, rfl, g1', g2', g3, g4, gS'⟩)
    | cons c cs' =>
      refine iteT ⟨fun σ'' H'' => ∃ (cur' mix' : Int) (v2 : Option V), σ'' = [some (.ref a), some (.int m), v2, none, none] ∧ H'' a = some (.lst [.ref l, .int cur', .int ((n : Int) + 1), .int mix']) ∧ H'' l = some (.lst (cs'.map V.int)) ∧ 0 ≤ mix' ∧ mix' < 2147483647 ∧ Sb a l H H'', ?_, ?_⟩
      · rintro σ'' H'' ⟨cur'', mix'', v2', rfl, q1, q2, q3, q4, qS⟩
        exact ⟨cs'.length, Nat.lt_succ_self _, cs', cur'', mix'', v2', rfl, rfl, q1, q2, q3, q4, qS⟩
      · refine ⟨_, rfl, a, _, 0, .ref l, rfl, rfl, SqL.of g1', rfl, .inl ⟨rfl, _, SqL.of g2'⟩, l, _, 0, 0, .int c, rfl, rfl, g2', by decide, by decide, ?_, rfl, ?_⟩
        · show (if (0 : Int) ≤ 0 && decide ((0 : Int) < ((c :: cs').map V.int).length) then some (0 : Int).toNat else none) = some 0
          exact if_pos (by simp)
        have e1 : upd (upd H' p (.lst [])) l (.lst (cs'.map V.int)) a = some (.lst [.ref l, .int cur', .int ((n : Int) + 1), .int mix']) := by
          rw [upd_ne ne]
          exact g1'
        refine ⟨_, rfl, a, _, 3, .int mix', rfl, rfl, SqL.of e1, rfl, _, _, rfl, rfl, .inr ⟨by decide, by decide⟩, _, rfl, _, _, rfl, rfl, _, _, rfl, rfl, .inl ⟨_, rfl, _, _, rfl, rfl, (by show (2147483647 : Int) ≠ 0; decide), ?_⟩⟩
        refine ⟨_, rfl, a, _, 3, 3, rfl, rfl, e1, rfl, ?_⟩
        refine ⟨_, rfl, _, _, rfl, rfl, ⟨by decide, by decide, by decide⟩, _, _, rfl, rfl, _, rfl, ?_⟩
        have e2 : ∀ z u : Int, upd (upd (upd (upd H' p (.lst [])) l (.lst (cs'.map V.int))) a (.lst [.ref l, .int cur', .int ((n : Int) + 1), .int z])) a (.lst [.ref l, .int u, .int ((n : Int) + 1), .int z]) l = some (.lst (cs'.map V.int)) := fun z u => by
          rw [upd_ne ne.symm, upd_ne ne.symm, upd_same]
        have e3 : ∀ o1 o2 o3 : HO, Sb a l H (upd (upd (upd (upd H' p (.lst [])) l o1) a o2) a o3) := fun o1 o2 o3 b o e x y => by
          have bl : b ≠ l := fun z => by
            have q := gS' b o e x y
            rw [z, g2', y z] at q
            cases q
          rw [upd_ne x, upd_ne x, upd_ne bl]
          exact gS' b o e x y
        have m0 : (0 : Int) < 2147483647 := by decide
        refine ite2 (fun _ => ?_) (fun _ => ?_)
        · refine ⟨_, rfl, _, rfl, a, _, 1, 1, rfl, rfl, upd_same, rfl, ?_⟩
          exact ⟨_, _, _, rfl, upd_same, e2 _ _, Int.fmod_nonneg_of_pos _ m0, Int.fmod_lt_of_pos _ m0, e3 _ _ _⟩
        · refine ⟨_, rfl, a, _, 1, 1, rfl, rfl, upd_same, rfl, ?_⟩
          exact ⟨_, _, _, rfl, upd_same, e2 _ _, Int.fmod_nonneg_of_pos _ m0, Int.fmod_lt_of_pos _ m0, e3 _ _ _⟩
end
end Lamp
set_option maxHeartbeats 4000000
namespace Lamp
open PySem L2
def spMixed (K : PySem.W.Frag) : Sp := fun vs H Q _ => ∃ (a l p : Addr) (n : Nat) (xs : List V), vs = [.ref a, .ref p] ∧ Spr H a l n ∧ (SqL K H p xs ∨ SqT K H p xs) ∧ n + xs.length ≤ 1000000 ∧ xs.length < 100000 ∧
  ∀ H' q ys, Sb a l H H' → Spr H' a l (n + xs.length) → H q = none → H' q = some (.lst ys) → ys.Perm xs → Q (.ref q) H'
theorem perm_eraseIdx {α : Type} : ∀ {l : List α} {i : Nat} {x : α}, l[i]? = some x → (x :: l.eraseIdx i).Perm l
  | [], i, x, h => by simp at h
  | a :: l, 0, x, h => by
    have e : a = x := Option.some.inj h
    subst e
    exact .refl _
  | a :: l, i + 1, x, h => by
    have ih := perm_eraseIdx (l := l) (i := i) (x := x) h
    show (x :: a :: l.eraseIdx i).Perm (a :: l)
    exact (List.Perm.swap a x _).trans (ih.cons a)
/-- len(x), x a list or a tuple -/
def rLenS (K : PySem.W.Frag) : List V → Hp → VK → Prop := fun xs H Q => ∃ p ys, xs = [.ref p] ∧ (SqL K H p ys ∨ SqT K H p ys) ∧ Q (.int ys.length) H
/-- left.pop(_law_draw(stream, len(left))) -/
def tMixE (K : PySem.W.Frag) : TE := tBM K "list" rPopAt (tVar 2) (tCons (tCall spDraw [] E0 (tCons (tVar 0) (tCons (tCB (rLenS K) (tCons (tVar 2) tNil)) tNil))) tNil)
section
variable {P : Program} {w : World} {K : PySem.W.Frag} {mg : Str → Option Value} {base : Heap}
theorem scM : FnScope ["stream", "some", "left", "k"] ["stream", "some"] (defScope sMixed) := ⟨rfl, rfl, rfl, by decide +kernel, rfl, by decide +kernel, by decide +kernel⟩
theorem ok_mixed {f fD : Addr} {fd fdD : FuncData} (F : Fun K "_law_mixed" "_law_mixed" sMixed f fd) (T : TxtS mg) (GD : FnOk P w K mg base CX0 1 fD fdD ["stream", "many"] spDraw) (mD : mg "_law_draw" = some (.ref fD)) (kD : PySem.W.keepIn K (.ref fD) = true) (bD : Binds K fdD ["stream", "many"] []) :
    FnOk P w K mg base CX0 2 f fd ["stream", "some"] (spMixed K) := by
  refine F.ok scM (fun vs H Q E h => ?_) (fun cdv A outer s H vs Q E hr h => ?_)
  · obtain ⟨a, l, p, n, xs, rfl, _⟩ := h
    rfl
  · obtain ⟨a, l, p, n, xs, rfl, hS, hp, hn, hx, k⟩ := h
    refine ⟨_, pss_cons (ps_set (i := 2) scM.nd rfl (Or.inr rfl) (pe_callTy call_list_of (by rfl) T.list (by decide +kernel) (pa_cons (pv 1) pa_nil)))
      (pss_one (ps_ret (pe_lc (te := tMixE K) (own := [("k", 3)]) (g := gName 3) (tt := tYes) rfl scM.nd (pi_range1 rfl T.range (pa_cons (pe_callB call_len_seq (by rfl) T.len PySem.boot_len (pa_cons (pv 2) pa_nil)) pa_nil)) (blkOk_by (N := ["stream", "some", "left", "k"]) (sc := defScope sMixed) (by decide +kernel)) (fun _ _ _ _ _ => pg_name (i := 3) scM.nd rfl (Or.inl rfl)) (fun _ _ _ _ _ => pts_nil)
        (fun _ _ _ _ _ => by exact (pe_bm PySem.F.plainAttrs_list PySem.F.slot_list_pop PySem.F.type_list_pop mt_popAt (pv 2) (pa_cons (pe_call GD (hr.mono (by decide)) (by rfl) mD kD bD .nil pass0 (pa_cons (pv 0) (pa_cons (pe_callB call_len_seq (by rfl) T.len PySem.boot_len (pa_cons (pv 2) pa_nil)) pa_nil))) pa_nil)))))), ?_⟩
    refine ⟨_, rfl, p, _, rfl, hp, fun q hq => ?_⟩
    have qa := hS.na hq
    have ql := hS.nl hq
    refine ⟨_, rfl, q, _, rfl, .inl (SqL.of upd_same), (xs.length : Int), rfl, by omega, by omega, fun D hD => ?_⟩
    have nqD : q ≠ D := fun z => by
      rw [← z, upd_same] at hD
      cases hD
    have hD0 : H D = none := by
      rw [upd_ne nqD.symm] at hD
      exact hD
    have Da := hS.na hD0
    have Dl := hS.nl hD0
    refine lc_range (lo := 0) (n := xs.length) (fun i H' => ∃ (ys rest : List V), H' D = some (.lst ys) ∧ H' q = some (.lst rest) ∧ (ys ++ rest).Perm xs ∧ ys.length = i ∧ Spr H' a l (n + i) ∧ Sb a l H H') ?_ ?_ ?_
    · refine ⟨[], xs, upd_same, by rw [upd_ne nqD, upd_same], List.Perm.refl _, rfl, (hS.updN qa ql).updN Da Dl, fun b o e x y => ?_⟩
      rw [upd_ne (ne_of_none e hD0), upd_ne (ne_of_none e hq)]
      exact e
    · rintro i H' hi ⟨ys, rest, g1, g2, g3, g4, g5, g6⟩
      have hlen : ys.length + rest.length = xs.length := by
        rw [← List.length_append]
        exact g3.length_eq
      refine ⟨rfl, ⟨_, rfl, .inl ⟨rfl, _, SqL.of g2⟩, _, rfl, _, rfl, q, _, rfl, .inl (SqL.of g2), a, l, n + i, (rest.length : Int), rfl, g5, by omega, by omega, by omega, fun H2 d sb s2 d0 d1 => ?_⟩⟩
      have h2 := sb q _ g2 qa (fun z => absurd z ql)
      have h1 := sb D _ g1 Da (fun z => absurd z Dl)
      have hd : d.toNat < rest.length := by omega
      obtain ⟨y, hy⟩ : ∃ y, rest[d.toNat]? = some y := ⟨rest[d.toNat], List.getElem?_eq_getElem hd⟩
      refine ⟨q, rest, d, d.toNat, y, rfl, rfl, h2, by omega, by omega, ?_, hy, ?_⟩
      · have e1 : (if d < 0 then d + (rest.length : Int) else d) = d := if_neg (by omega)
        unfold seqIndex?
        simp only [e1]
        rw [if_pos (by simp [d0]; omega)]
      refine ⟨ys, by rw [upd_ne nqD.symm]; exact h1, ?_, ys ++ [y], rest.eraseIdx d.toNat, upd_same, ?_, ?_, ?_, ?_, ?_⟩
      · exact Nat.lt_of_lt_of_le (show ys.length < 100000 by omega) (by decide)
      · rw [upd_ne nqD, upd_same]
      · refine List.Perm.trans ?_ g3
        rw [List.append_assoc]
        refine List.Perm.append_left ys ?_
        have e := perm_eraseIdx hy
        exact e
      · rw [List.length_append, g4]
        rfl
      · exact (s2.updN qa ql).updN Da Dl
      · intro b o e x v
        rw [upd_ne (ne_of_none e hD0), upd_ne (ne_of_none e hq)]
        exact sb b o (g6 b o e x v) x v
    · rintro H' ⟨ys, rest, g1, g2, g3, g4, g5, g6⟩
      have hlen : ys.length + rest.length = xs.length := by
        rw [← List.length_append]
        exact g3.length_eq
      have e0 : rest = [] := List.eq_nil_of_length_eq_zero (by omega)
      rw [e0, List.append_nil] at g3
      exact k H' D ys g6 g5 hD0 g1 g3
end
end Lamp
set_option maxHeartbeats 4000000
namespace Lamp
open PySem PySem.Spec PyProof.Rows L2
/-! ### a house as it stands in the heap -/
/-- the rooms beside one, by the doors as they are told -/
def nearOf (ds : List (Str × Str)) (r : Str) : List Str := ds.filterMap fun d => if d.1 = r then some d.2 else if d.2 = r then some d.1 else none
/-- a dict from rooms to objects -/
def NM (rs : List Str) (nf : Str → Addr) : List (Key × V) := rs.map fun r => ((Sum.inr r : Key), V.ref (nf r))
theorem nm_get {nf : Str → Addr} {r : Str} : ∀ {rs : List Str}, r ∈ rs → valV (NM rs nf) (Sum.inr r) = some (.ref (nf r))
  | [], m => by cases m
  | x :: rs, m => by
    by_cases e : x = r
    · subst e
      simp [NM, valV]
    · have ih := nm_get (nf := nf) (r := r) (rs := rs) (by
        rcases List.mem_cons.mp m with z | z
        · exact absurd z.symm e
        · exact z)
      rw [← ih]
      simp [NM, valV, e]
theorem nm_none {nf : Str → Addr} {r : Str} : ∀ {rs : List Str}, r ∉ rs → valV (NM rs nf) (Sum.inr r) = none
  | [], _ => rfl
  | x :: rs, h => by
    have e : x ≠ r := fun z => h (z ▸ List.mem_cons_self)
    have ih := nm_none (nf := nf) (rs := rs) (r := r) fun m => h (List.mem_cons_of_mem _ m)
    rw [← ih]
    simp [NM, valV, e]
theorem nm_dec {nf : Str → Addr} {r : Str} {rs : List Str} : (valV (NM rs nf) (Sum.inr r)).isSome = decide (r ∈ rs) := by
  by_cases m : r ∈ rs
  · rw [nm_get m, decide_eq_true m]
    rfl
  · rw [nm_none m, decide_eq_false m]
    rfl
def TupsAt (H : Hp) (ts : List Addr) (es : List (Str × Str)) : Prop := Paired (fun t e => H t = some (.tup [.str e.1, .str e.2])) ts es
theorem Paired.imp {α β : Type} {R S : α → β → Prop} (h : ∀ a b, R a b → S a b) : ∀ {xs : List α} {ys : List β}, Paired R xs ys → Paired S xs ys
  | [], [], .nil => .nil
  | _ :: _, _ :: _, .cons a r => .cons (h _ _ a) (Paired.imp h r)
/-- the dict of what is beside each room -/
def NearAt (H : Hp) (na : Addr) (rs : List Str) (ds : List (Str × Str)) : Prop := ∃ nf : Str → Addr, H na = some (.dK (NM rs nf)) ∧ ∀ r ∈ rs, H (nf r) = some (.lst ((nearOf ds r).map V.str))
/-- a house with these rooms and doors at h, the class at C -/
structure HouseAt (H : Hp) (C h : Addr) (rs : List Str) (ds : List (Str × Str)) : Prop where
  at_ : ∃ (dx ra da na : Addr) (ts : List Addr), H h = some (.ins C dx [("_rooms", .ref ra), ("_doors", .ref da), ("_near", .ref na)]) ∧ H ra = some (.lst (rs.map V.str)) ∧ H da = some (.lst (ts.map V.ref)) ∧ TupsAt H ts ds ∧ NearAt H na rs ds
theorem HouseAt.same {H H' : Hp} {C h : Addr} {rs : List Str} {ds : List (Str × Str)} (a : HouseAt H C h rs ds) (s : Same H H') : HouseAt H' C h rs ds := by
  obtain ⟨dx, ra, da, na, ts, h1, h2, h3, h4, nf, h5, h6⟩ := a.at_
  exact ⟨dx, ra, da, na, ts, s _ _ h1, s _ _ h2, s _ _ h3, Paired.imp (fun _ _ e => s _ _ e) h4, nf, s _ _ h5, fun r hr => s _ _ (h6 r hr)⟩
/-- what the class House gives -/
structure ClsH (K : PySem.W.Frag) (C : Addr) : Prop where
  cls : Cls K C
  nR : NoAttr K C "_rooms"
  nD : NoAttr K C "_doors"
  nN : NoAttr K C "_near"
structure TxtH (mg : Str → Option Value) : Prop where
  list : mg "list" = none
  isi : mg "isinstance" = none
theorem none_upd {H : Hp} {a b : Addr} {o : HO} (h : upd H a o b = none) : b ≠ a ∧ H b = none := by
  by_cases e : b = a
  · subst e
    rw [upd_same] at h
    cases h
  · rw [upd_ne e] at h
    exact ⟨e, h⟩
theorem same_upd {H : Hp} {a : Addr} {o : HO} (h : H a = none) : Same H (upd H a o) := fun b u e => by
  rw [upd_ne (ne_of_none e h)]
  exact e
section
variable {P : Program} {w : World} {K : PySem.W.Frag} {mg : Str → Option Value} {base : Heap} {C : Addr}
/-! ### House.rooms, House.near, House.has -/
def spRooms (C : Addr) : Sp := fun vs H Q _ => ∃ (h : Addr) (rs : List Str) (ds : List (Str × Str)), vs = [.ref h] ∧ HouseAt H C h rs ds ∧ ∀ H' p, Same H H' → (∀ x, H' x = none → H x = none) → H p = none → H' p = some (.lst (rs.map V.str)) → Q (.ref p) H'
theorem scHr : FnScope ["self"] ["self"] (defScope m_House_rooms) := ⟨rfl, rfl, rfl, by decide +kernel, rfl, by decide +kernel, by decide +kernel⟩
theorem ok_rooms {f : Addr} {fd : FuncData} (F : Fun K "rooms" "House.rooms" m_House_rooms f fd) (T : TxtH mg) (c : ClsH K C) : FnOk P w K mg base CX0 1 f fd ["self"] (spRooms C) := by
  refine F.ok scHr (fun vs H Q E h => ?_) (fun cdv A outer s H vs Q E hr h => ?_)
  · obtain ⟨h, rs, ds, rfl, _⟩ := h
    rfl
  · obtain ⟨h, rs, ds, rfl, a, k⟩ := h
    obtain ⟨dx, ra, da, na, ts, h1, h2, h3, h4, nf, h5, h6⟩ := a.at_
    refine ⟨_, pss_one (ps_ret (pe_callTy call_list_of (by rfl) T.list (by decide +kernel) (pa_cons (pe_fld (f := "_rooms") (pv 0) (by rfl)) pa_nil))), ?_⟩
    refine ⟨_, rfl, h, C, dx, _, _, rfl, h1, c.cls, c.nR, by rfl, _, _, rfl, .inl (SqL.of h2), fun p np => ?_⟩
    exact k _ p (same_upd np) (fun x z => (none_upd z).2) np upd_same
def spNear (C : Addr) : Sp := fun vs H Q _ => ∃ (h : Addr) (r : Str) (rs : List Str) (ds : List (Str × Str)), vs = [.ref h, .str r] ∧ HouseAt H C h rs ds ∧ r ∈ rs ∧ ∀ H' p, Same H H' → (∀ x, H' x = none → H x = none) → H p = none → H' p = some (.lst ((nearOf ds r).map V.str)) → Q (.ref p) H'
theorem scHn : FnScope ["self", "room"] ["self", "room"] (defScope m_House_near) := ⟨rfl, rfl, rfl, by decide +kernel, rfl, by decide +kernel, by decide +kernel⟩
theorem ok_near {f : Addr} {fd : FuncData} (F : Fun K "near" "House.near" m_House_near f fd) (T : TxtH mg) (c : ClsH K C) : FnOk P w K mg base CX0 1 f fd ["self", "room"] (spNear C) := by
  refine F.ok scHn (fun vs H Q E h => ?_) (fun cdv A outer s H vs Q E hr h => ?_)
  · obtain ⟨h, r, rs, ds, rfl, _⟩ := h
    rfl
  · obtain ⟨h, r, rs, ds, rfl, a, m, k⟩ := h
    obtain ⟨dx, ra, da, na, ts, h1, h2, h3, h4, nf, h5, h6⟩ := a.at_
    have hn := h6 r m
    have hv := nm_get (nf := nf) m
    refine ⟨_, pss_one (ps_ret (pe_callTy call_list_of (by rfl) T.list (by decide +kernel) (pa_cons (pe_dget (Nat.lt_of_le_of_lt (Nat.add_le_add_left (by decide) _) hr.units) (pe_fld (f := "_near") (pv 0) (by rfl)) (pv 1) (fun _ _ => rfl)) pa_nil))), ?_⟩
    have g := DGet.k (k := Sum.inr r) h5
    rw [hv] at g
    refine ⟨_, rfl, h, C, dx, _, _, rfl, h1, c.cls, c.nN, by rfl, _, rfl, na, _, rfl, g, _, _, rfl, .inl (SqL.of hn), fun p np => ?_⟩
    exact k _ p (same_upd np) (fun x z => (none_upd z).2) np upd_same
end
end Lamp
set_option maxHeartbeats 4000000
namespace Lamp
open PySem PySem.Spec PyProof.Rows L2
/-- statements that are never reached -/
theorem pss_dead {X : Cx} {st : List Stmt} : PSs X st (fun _ _ _ => False) := ⟨fun _ _ _ _ _ _ h => h.elim⟩
structure TxtI (mg : Str → Option Value) : Prop where
  isi : mg "isinstance" = none
  str : mg "str" = none
section
variable {P : Program} {w : World} {K : PySem.W.Frag} {mg : Str → Option Value} {base : Heap} {C : Addr}
/-! ### House.has of a text, need_room of a room -/
def spHas (C : Addr) : Sp := fun vs H Q _ => ∃ (h : Addr) (z : Str) (rs : List Str) (ds : List (Str × Str)), vs = [.ref h, .str z] ∧ HouseAt H C h rs ds ∧ Q (.bl (decide (z ∈ rs))) H
theorem scHh : FnScope ["self", "thing"] ["self", "thing"] (defScope m_House_has) := ⟨rfl, rfl, rfl, by decide +kernel, rfl, by decide +kernel, by decide +kernel⟩
theorem ok_has {f : Addr} {fd : FuncData} (F : Fun K "has" "House.has" m_House_has f fd) (T : TxtI mg) (c : ClsH K C) : FnOk P w K mg base CX0 1 f fd ["self", "thing"] (spHas C) := by
  refine F.ok scHh (fun vs H Q E h => ?_) (fun cdv A outer s H vs Q E hr h => ?_)
  · obtain ⟨h, z, rs, ds, rfl, _⟩ := h
    rfl
  · obtain ⟨h, z, rs, ds, rfl, a, k⟩ := h
    obtain ⟨dx, ra, da, na, ts, h1, h2, h3, h4, nf, h5, h6⟩ := a.at_
    refine ⟨_, pss_one (ps_ret (pe_and (pe_callB call_isi (by rfl) T.isi PyProof.Rows.Boot.isinstance (pa_cons (pv 1) (pa_cons (pe_bltn (v := .ty "str") (by rfl) T.str PyProof.Rows.Boot.str rfl) pa_nil)))
      (pe_one (pe_cmp (pc_din (Nat.lt_of_le_of_lt (Nat.add_le_add_left (by decide) _) hr.units) (pv 1) (pe_fld (f := "_near") (pv 0) (by rfl))))))), ?_⟩
    have g := DGet.k (k := Sum.inr z) h5
    refine ⟨_, rfl, .str z, .ty "str", _, _, true, rfl, .ty _, .base (.str z), kit_ty (by decide +kernel), true, rfl, ?_⟩
    rw [if_pos rfl]
    refine ⟨_, rfl, _, rfl, h, C, dx, _, _, rfl, h1, c.cls, c.nN, by rfl, na, _, rfl, g, ?_⟩
    rw [nm_dec]
    exact k
/-- the house's method has, ready to be called -/
structure HasH (P : Program) (w : World) (K : PySem.W.Frag) (mg : Str → Option Value) (base : Heap) (C : Addr) : Prop where
  cls : ClsH K C
  has : ∃ (f : Addr) (fd : FuncData), Meth K C "has" f ∧ FnOk P w K mg base CX0 1 f fd ["self", "thing"] (spHas C) ∧ L2.Binds K fd ["self", "thing"] []
  near : ∃ (f : Addr) (fd : FuncData), Meth K C "near" f ∧ FnOk P w K mg base CX0 1 f fd ["self", "room"] (spNear C) ∧ L2.Binds K fd ["self", "room"] []
  rooms : ∃ (f : Addr) (fd : FuncData), Meth K C "rooms" f ∧ FnOk P w K mg base CX0 1 f fd ["self"] (spRooms C) ∧ L2.Binds K fd ["self"] []
def spNeed (C : Addr) : Sp := fun vs H Q _ => ∃ (h : Addr) (z : Str) (rs : List Str) (ds : List (Str × Str)), vs = [.ref h, .str z] ∧ HouseAt H C h rs ds ∧ z ∈ rs ∧ Q .non H
theorem scNr : FnScope ["house", "thing"] ["house", "thing"] (defScope s_need_room) := ⟨rfl, rfl, rfl, by decide +kernel, rfl, by decide +kernel, by decide +kernel⟩
theorem ok_need {f : Addr} {fd : FuncData} (F : Fun K "need_room" "need_room" s_need_room f fd) (M : HasH P w K mg base C) : FnOk P w K mg base CX0 2 f fd ["house", "thing"] (spNeed C) := by
  obtain ⟨fh, fdh, mh, Gh, bh⟩ := M.has
  refine F.ok scNr (fun vs H Q E h => ?_) (fun cdv A outer s H vs Q E hr h => ?_)
  · obtain ⟨h, z, rs, ds, rfl, _⟩ := h
    rfl
  · obtain ⟨h, z, rs, ds, rfl, a, m, k⟩ := h
    refine ⟨_, pss_one (ps_if (pt_not (pt_val (pe_meth (pv 0) M.cls.cls mh Gh hr bh .nil pass0 (pa_cons (pv 1) pa_nil)))) pss_dead pss_nil), ?_⟩
    have a' := a
    obtain ⟨dx, ra, da, na, ts, h1, h2, h3, h4, nf, h5, h6⟩ := a'.at_
    refine ⟨_, rfl, h, dx, _, rfl, h1, by rfl, _, rfl, h, z, rs, ds, rfl, a, _, rfl, ?_⟩
    rw [decide_eq_true m]
    exact k
end
end Lamp
namespace Lamp
open PySem
/-! ### houses without rings -/
abbrev Ed := Str × Str
/-- doors lead from one to the other -/
inductive Conn (ds : List Ed) : Str → Str → Prop
  | refl (a : Str) : Conn ds a a
  | fwd {a b c : Str} : Conn ds a b → (b, c) ∈ ds → Conn ds a c
  | bwd {a b c : Str} : Conn ds a b → (c, b) ∈ ds → Conn ds a c
theorem Conn.trans {ds : List Ed} {a b c : Str} (h : Conn ds a b) (g : Conn ds b c) : Conn ds a c := by
  induction g with
  | refl => exact h
  | fwd _ m ih => exact .fwd ih m
  | bwd _ m ih => exact .bwd ih m
theorem Conn.symm {ds : List Ed} {a b : Str} (h : Conn ds a b) : Conn ds b a := by
  induction h with
  | refl => exact .refl _
  | fwd _ m ih => exact Conn.trans (.bwd (.refl _) m) ih
  | bwd _ m ih => exact Conn.trans (.fwd (.refl _) m) ih
theorem Conn.mono {ds es : List Ed} {a b : Str} (h : Conn ds a b) (s : ∀ e ∈ ds, e ∈ es) : Conn es a b := by
  induction h with
  | refl => exact .refl _
  | fwd _ m ih => exact .fwd ih (s _ m)
  | bwd _ m ih => exact .bwd ih (s _ m)
/-- rooms and doors, each room but the first joined by one door to one ahead of it -/
inductive Tree : List Str → List Ed → Prop
  | one (r : Str) : Tree [r] []
  | grow {rs : List Str} {ds : List Ed} {a r : Str} {e : Ed} : Tree rs ds → a ∈ rs → r ∉ rs → (e = (a, r) ∨ e = (r, a)) → Tree (rs ++ [r]) (ds ++ [e])
theorem Tree.ends {rs : List Str} {ds : List Ed} (t : Tree rs ds) : ∀ e ∈ ds, e.1 ∈ rs ∧ e.2 ∈ rs ∧ e.1 ≠ e.2 := by
  induction t with
  | one r => exact fun e h => by cases h
  | @grow rs ds a r e t ha hr he ih =>
    intro d hd
    rcases List.mem_append.mp hd with hd | hd
    · obtain ⟨h1, h2, h3⟩ := ih d hd
      exact ⟨List.mem_append_left _ h1, List.mem_append_left _ h2, h3⟩
    · rw [List.mem_singleton.mp hd]
      have ne : a ≠ r := fun z => hr (z ▸ ha)
      rcases he with rfl | rfl
      · exact ⟨List.mem_append_left _ ha, List.mem_append_right _ (List.mem_singleton.mpr rfl), ne⟩
      · exact ⟨List.mem_append_right _ (List.mem_singleton.mpr rfl), List.mem_append_left _ ha, ne.symm⟩
theorem Tree.nodup {rs : List Str} {ds : List Ed} (t : Tree rs ds) : rs.Nodup := by
  induction t with
  | one r => exact List.nodup_cons.mpr ⟨by simp, List.nodup_nil⟩
  | grow t ha hr he ih => exact List.nodup_append.mpr ⟨ih, List.nodup_cons.mpr ⟨by simp, List.nodup_nil⟩, fun x hx y hy z => hr (by
      rw [List.mem_singleton.mp hy] at z
      exact z ▸ hx)⟩
theorem Tree.joined {rs : List Str} {ds : List Ed} (t : Tree rs ds) : ∀ a ∈ rs, ∀ b ∈ rs, Conn ds a b := by
  induction t with
  | one r =>
    intro a ha b hb
    rw [List.mem_singleton.mp ha, List.mem_singleton.mp hb]
    exact .refl _
  | @grow rs ds a r e t ha hr he ih =>
    have old : ∀ {x y}, x ∈ rs → y ∈ rs → Conn (ds ++ [e]) x y := fun hx hy => (ih _ hx _ hy).mono fun d hd => List.mem_append_left _ hd
    have new : Conn (ds ++ [e]) a r := by
      have m : e ∈ ds ++ [e] := List.mem_append_right _ (List.mem_singleton.mpr rfl)
      rcases he with rfl | rfl
      · exact .fwd (.refl _) m
      · exact .bwd (.refl _) m
    have toA : ∀ x ∈ rs ++ [r], Conn (ds ++ [e]) x a := fun x hx => by
      rcases List.mem_append.mp hx with hx | hx
      · exact old hx ha
      · rw [List.mem_singleton.mp hx]
        exact new.symm
    exact fun x hx y hy => (toA x hx).trans (toA y hy).symm
theorem conn_end {ds : List Ed} {rs : List Str} (hd : ∀ e ∈ ds, e.1 ∈ rs ∧ e.2 ∈ rs) {a b : Str} (h : Conn ds a b) (ha : a ∈ rs) : b ∈ rs := by
  induction h with
  | refl => exact ha
  | fwd _ m _ => exact (hd _ m).2
  | bwd _ m _ => exact (hd _ m).1
/-- no door closes a ring with the others -/
theorem Tree.noring {rs : List Str} {ds : List Ed} (t : Tree rs ds) : ∀ (e : Ed) (l : List Ed), ds.Perm (e :: l) → ¬ Conn l e.1 e.2 := by
  induction t with
  | one r =>
    intro e l p
    exact absurd p.length_eq (by simp)
  | @grow rs ds a r e0 t ha hr he ih =>
    intro e l p c
    have ends := t.ends
    by_cases q : e = e0
    · subst q
      have p2 : ds.Perm l := by
        have z : (e :: ds).Perm (e :: l) := (List.perm_append_comm (l₁ := [e]) (l₂ := ds)).trans p
        exact z.cons_inv
      have c2 : Conn ds e.1 e.2 := c.mono fun d hd => p2.mem_iff.mpr hd
      have hd : ∀ d ∈ ds, d.1 ∈ rs ∧ d.2 ∈ rs := fun d h => ⟨(ends d h).1, (ends d h).2.1⟩
      rcases he with rfl | rfl
      · exact hr (conn_end hd c2 ha)
      · exact hr (conn_end hd c2.symm ha)
    · have m0 : e0 ∈ l := by
        have z : e0 ∈ e :: l := p.mem_iff.mp (List.mem_append_right _ (List.mem_singleton.mpr rfl))
        rcases List.mem_cons.mp z with z | z
        · exact absurd z.symm q
        · exact z
      obtain ⟨l', pl⟩ : ∃ l', l.Perm (e0 :: l') := ⟨l.erase e0, List.perm_cons_erase m0⟩
      have p2 : ds.Perm (e :: l') := by
        have z : (e0 :: ds).Perm (e0 :: e :: l') := (List.perm_append_comm (l₁ := [e0]) (l₂ := ds)).trans (p.trans ((pl.cons e).trans (List.Perm.swap _ _ _)))
        exact z.cons_inv
      have em : e ∈ ds := p2.mem_iff.mpr List.mem_cons_self
      have hl : ∀ d ∈ l', d.1 ∈ rs ∧ d.2 ∈ rs := fun d h => by
        have z := ends d (p2.mem_iff.mpr (List.mem_cons_of_mem _ h))
        exact ⟨z.1, z.2.1⟩
      let φ : Str → Str := fun z => if z = r then a else z
      have old : ∀ x ∈ rs, φ x = x := fun x hx => if_neg (fun z : x = r => hr (z ▸ hx))
      have step : ∀ x y, (x, y) ∈ l → Conn l' (φ x) (φ y) := fun x y hm => by
        rcases List.mem_cons.mp (pl.mem_iff.mp hm) with z | z
        · have s1 : φ r = a := if_pos rfl
          have s2 : φ a = a := old a ha
          rcases he with rfl | rfl
          · obtain ⟨rfl, rfl⟩ := Prod.mk.inj z
            rw [s1, s2]
            exact .refl _
          · obtain ⟨rfl, rfl⟩ := Prod.mk.inj z
            rw [s1, s2]
            exact .refl _
        · obtain ⟨h1, h2⟩ := hl _ z
          rw [old _ h1, old _ h2]
          exact .fwd (.refl _) z
      have all : ∀ {x y}, Conn l x y → Conn l' (φ x) (φ y) := fun {x y} h => by
        induction h with
        | refl => exact .refl _
        | fwd _ m ih => exact ih.trans (step _ _ m)
        | bwd _ m ih => exact ih.trans (step _ _ m).symm
      have z := all c
      rw [old _ (ends e em).1, old _ (ends e em).2.1] at z
      exact ih e l' p2 z
end Lamp
namespace Lamp
open PySem L2
/-! ### leaders -/
/-- the room that stands for r: from leader to leader -/
inductive Root (p : Str → Str) : Str → Str → Prop
  | stop {r : Str} : p r = r → Root p r r
  | step {r t : Str} : p r ≠ r → Root p (p r) t → Root p r t
theorem Root.uniq {p : Str → Str} {r t u : Str} (h : Root p r t) (g : Root p r u) : t = u := by
  induction h with
  | stop e =>
    cases g with
    | stop _ => rfl
    | step n _ => exact absurd e n
  | step n _ ih =>
    cases g with
    | stop e => exact absurd e n
    | step _ g => exact ih g
theorem Root.top {p : Str → Str} {r t : Str} (h : Root p r t) : p t = t := by
  induction h with
  | stop e => exact e
  | step _ _ ih => exact ih
/-- leaders lead down by d -/
structure Forest (rs : List Str) (p : Str → Str) (d : Str → Nat) : Prop where
  mem : ∀ r ∈ rs, p r ∈ rs
  down : ∀ r ∈ rs, p r ≠ r → d (p r) < d r
theorem Forest.root {rs : List Str} {p : Str → Str} {d : Str → Nat} (F : Forest rs p d) : ∀ (n : Nat) (r : Str), d r ≤ n → r ∈ rs → ∃ t ∈ rs, Root p r t
  | 0, r, h, m => by
    by_cases e : p r = r
    · exact ⟨r, m, .stop e⟩
    · exact absurd (F.down r m e) (by omega)
  | n + 1, r, h, m => by
    by_cases e : p r = r
    · exact ⟨r, m, .stop e⟩
    · obtain ⟨t, ht, g⟩ := F.root n (p r) (by have := F.down r m e; omega) (F.mem r m)
      exact ⟨t, ht, .step e g⟩
def putP (p : Str → Str) (r v : Str) : Str → Str := fun x => if x = r then v else p x
theorem putP_same {p : Str → Str} {r v : Str} : putP p r v r = v := if_pos rfl
theorem putP_ne {p : Str → Str} {r v x : Str} (h : x ≠ r) : putP p r v x = p x := if_neg h
/-- a leader led past the next room -/
theorem Forest.half {rs : List Str} {p : Str → Str} {d : Str → Nat} (F : Forest rs p d) {r : Str} (m : r ∈ rs) (n : p r ≠ r) : Forest rs (putP p r (p (p r))) d := by
  have m2 := F.mem r m
  refine ⟨fun x hx => ?_, fun x hx hn => ?_⟩
  · by_cases e : x = r
    · rw [e, putP_same]
      exact F.mem _ m2
    · rw [putP_ne e]
      exact F.mem x hx
  · by_cases e : x = r
    · subst e
      rw [putP_same] at hn ⊢
      by_cases q : p (p x) = p x
      · rw [q]
        exact F.down x m n
      · exact Nat.lt_trans (F.down _ m2 q) (F.down x m n)
    · rw [putP_ne e] at hn ⊢
      exact F.down x hx hn
theorem Forest.halfRoot {rs : List Str} {p : Str → Str} {d : Str → Nat} (F : Forest rs p d) {r : Str} (m : r ∈ rs) (n : p r ≠ r) : ∀ (k : Nat) (x t : Str), d x ≤ k → x ∈ rs → Root p x t → Root (putP p r (p (p r))) x t := by
  have m2 := F.mem r m
  have F' := F.half m n
  intro k
  induction k with
  | zero =>
    intro x t hk hx h
    cases h with
    | stop e =>
      have ne : x ≠ r := fun z => n (z ▸ e)
      exact .stop (by rw [putP_ne ne]; exact e)
    | step ne _ => exact absurd (F.down x hx ne) (by omega)
  | succ k ih =>
    intro x t hk hx h
    cases h with
    | stop e =>
      have ne : x ≠ r := fun z => n (z ▸ e)
      exact .stop (by rw [putP_ne ne]; exact e)
    | step ne g =>
      have dx := F.down x hx ne
      by_cases e : x = r
      · subst e
        cases g with
        | stop e2 =>
          refine .step (by rw [putP_same, e2]; exact ne) ?_
          rw [putP_same, e2]
          exact .stop (by rw [putP_ne ne]; exact e2)
        | step n2 g2 =>
          have d2 := F.down _ m2 n2
          refine .step (fun z => ?_) ?_
          · rw [putP_same] at z
            rw [z] at d2
            omega
          · rw [putP_same]
            exact ih _ _ (by omega) (F.mem _ m2) g2
      · refine .step (by rw [putP_ne e]; exact ne) ?_
        rw [putP_ne e]
        exact ih _ _ (by omega) (F.mem _ hx) g
/-- the one that stands for others led by another -/
theorem Forest.join {rs : List Str} {p : Str → Str} {d : Str → Nat} (F : Forest rs p d) {a b : Str} (ha : a ∈ rs) (hb : b ∈ rs) (ea : p a = a) (eb : p b = b) (n : a ≠ b) :
    ∃ d', Forest rs (putP p a b) d' := by
  classical
  refine ⟨fun x => if Root p x a then d x + d b + 1 else d x, fun x hx => ?_, fun x hx hn => ?_⟩
  · by_cases e : x = a
    · rw [e, putP_same]
      exact hb
    · rw [putP_ne e]
      exact F.mem x hx
  · have nb : ¬ Root p b a := fun h => n (h.uniq (.stop eb))
    by_cases e : x = a
    · subst e
      rw [putP_same, if_neg nb, if_pos (.stop ea)]
      omega
    · rw [putP_ne e] at hn ⊢
      have down := F.down x hx hn
      by_cases q : Root p x a
      · have q2 : Root p (p x) a := by
          cases q with
          | stop _ => exact absurd rfl e
          | step _ g => exact g
        rw [if_pos q, if_pos q2]
        omega
      · have q2 : ¬ Root p (p x) a := fun g => q (.step hn g)
        rw [if_neg q, if_neg q2]
        exact down
theorem join_root {p : Str → Str} {a b : Str} (ea : p a = a) (eb : p b = b) (n : a ≠ b) {x t : Str} (h : Root (putP p a b) x t) : (Root p x t ∧ t ≠ a) ∨ (Root p x a ∧ t = b) := by
  induction h with
  | @stop x e =>
    by_cases q : x = a
    · subst q
      rw [putP_same] at e
      exact absurd e.symm n
    · rw [putP_ne q] at e
      exact .inl ⟨.stop e, q⟩
  | @step x t ne g ih =>
    by_cases q : x = a
    · subst q
      rw [putP_same] at g ih
      have hb : putP p x b b = b := by rw [putP_ne n.symm]; exact eb
      exact .inr ⟨.stop ea, g.uniq (.stop hb)⟩
    · rw [putP_ne q] at ne ih
      rcases ih with ⟨h1, h2⟩ | ⟨h1, h2⟩
      · exact .inl ⟨.step ne h1, h2⟩
      · exact .inr ⟨.step ne h1, h2⟩
end Lamp
set_option maxHeartbeats 4000000
namespace Lamp
open PySem PySem.Spec PyProof.Rows L2
/-! ### a dict from rooms to rooms -/
def PM (rs : List Str) (p : Str → Str) : List (Key × V) := rs.map fun r => ((Sum.inr r : Key), V.str (p r))
theorem pm_get {p : Str → Str} {r : Str} : ∀ {rs : List Str}, r ∈ rs → valV (PM rs p) (Sum.inr r) = some (.str (p r))
  | [], m => by cases m
  | x :: rs, m => by
    by_cases e : x = r
    · subst e
      simp [PM, valV]
    · have ih := pm_get (p := p) (r := r) (rs := rs) (by
        rcases List.mem_cons.mp m with z | z
        · exact absurd z.symm e
        · exact z)
      rw [← ih]
      simp [PM, valV, e]
theorem pm_put {p : Str → Str} {r v : Str} {rs : List Str} (m : r ∈ rs) : putK (PM rs p) (Sum.inr r) (.str v) = PM rs (putP p r v) := by
  unfold putK
  have a : ((PM rs p).any fun kv => decide (kv.1 = (Sum.inr r : Key))) = true := List.any_eq_true.mpr ⟨(Sum.inr r, .str (p r)), List.mem_map.mpr ⟨r, m, rfl⟩, by simp⟩
  rw [if_pos a]
  unfold PM
  rw [List.map_map]
  refine List.map_congr_left fun x _ => ?_
  show (if (Sum.inr x : Key) = Sum.inr r then ((Sum.inr x : Key), V.str v) else ((Sum.inr x : Key), V.str (p x))) = (Sum.inr x, V.str (putP p r v x))
  by_cases e : x = r
  · subst e
    rw [if_pos rfl, putP_same]
  · rw [if_neg (fun z => e (Sum.inr.inj z)), putP_ne e]
theorem pm_len {p : Str → Str} {rs : List Str} : (PM rs p).length = rs.length := List.length_map _
theorem iteF2 {c : Bool} {A B : Prop} (h : c = false) (g : B) : if c = true then A else B := by
  rw [if_neg (by rw [h]; decide)]
  exact g
theorem iteT2 {c : Bool} {A B : Prop} (h : c = true) (g : A) : if c = true then A else B := by
  rw [if_pos h]
  exact g
section
variable {P : Program} {w : World} {K : PySem.W.Frag} {mg : Str → Option Value} {base : Heap}
/-! ### leader_of -/
def spLeader : Sp := fun vs H Q _ => ∃ (D : Addr) (r : Str) (rs : List Str) (p : Str → Str) (d : Str → Nat), vs = [.ref D, .str r] ∧ H D = some (.dK (PM rs p)) ∧ Forest rs p d ∧ r ∈ rs ∧ rs.length < 1000 ∧
  ∀ H' p' t, H' D = some (.dK (PM rs p')) → Forest rs p' d → (∀ x ∈ rs, ∀ u, Root p x u → Root p' x u) → t ∈ rs → Root p r t → (∀ b o, b ≠ D → H b = some o → H' b = some o) → (∀ b, H' b = none → H b = none) → Q (.str t) H'
theorem scLd : FnScope ["leaders", "room"] ["leaders", "room"] (defScope s_leader_of) := ⟨rfl, rfl, rfl, by decide +kernel, rfl, by decide +kernel, by decide +kernel⟩
theorem ok_leader {f : Addr} {fd : FuncData} (F : Fun K "leader_of" "leader_of" s_leader_of f fd) : FnOk P w K mg base CX0 1 f fd ["leaders", "room"] spLeader := by
  refine F.ok scLd (fun vs H Q E h => ?_) (fun cdv A outer s H vs Q E hr h => ?_)
  · obtain ⟨D, r, rs, p, d, rfl, _⟩ := h
    rfl
  · obtain ⟨D, r, rs, p, d, rfl, hD, hF, hm, hl, k⟩ := h
    have hu := Nat.lt_of_le_of_lt (Nat.add_le_add_left (show 1 ≤ 64 by decide) _) hr.units
    refine ⟨_, pss_cons (ps_while PassesOwn.never (pt_cmpR op_ne (pe_dget hu (pv 0) (pv 1) (fun _ _ => rfl)) (pv 1) (nomark _))
      (pss_cons (ps_dput hu (pv 0) (pv 1) (pe_dget hu (pv 0) (pe_dget hu (pv 0) (pv 1) (fun _ _ => rfl)) (fun _ _ => rfl)) (by rfl))
      (pss_one (ps_set (i := 1) scLd.nd rfl (Or.inl rfl) (pe_dget hu (pv 0) (pv 1) (fun _ _ => rfl))))))
      (pss_one (ps_ret (pv 1))), ?_⟩
    refine while_ex (fun σ' H' => ∃ (x t : Str) (q : Str → Str), σ' = [some (.ref D), some (.str x)] ∧ H' D = some (.dK (PM rs q)) ∧ Forest rs q d ∧ (∀ x ∈ rs, ∀ u, Root p x u → Root q x u) ∧ x ∈ rs ∧ q x = x ∧ Root p r x ∧ (∀ b o, b ≠ D → H b = some o → H' b = some o) ∧ (∀ b, H' b = none → H b = none)) ?_ (fun fin => ?_)
    · rintro σ' H' ⟨x, t, q, rfl, g1, g2, g3, g4, g5, g6, g7, g8⟩
      exact ⟨_, rfl, k H' q x g1 g2 g3 g4 g6 g7 g8⟩
    obtain ⟨t, ht, hR⟩ := hF.root (d r) r (Nat.le_refl _) hm
    refine while_by (fun σ' H' => ∃ (x : Str) (q : Str → Str), σ' = [some (.ref D), some (.str x)] ∧ H' D = some (.dK (PM rs q)) ∧ Forest rs q d ∧ (∀ x ∈ rs, ∀ u, Root p x u → Root q x u) ∧ x ∈ rs ∧ Root q x t ∧ (∀ b o, b ≠ D → H b = some o → H' b = some o) ∧ (∀ b, H' b = none → H b = none))
      (fun σ' _ => match σ' with
        | [_, some (.str x)] => d x
        | _ => 0) ⟨r, p, rfl, hD, hF, fun x _ u h => h, hm, hR, fun b o _ e => e, fun b e => e⟩ ?_ ?_
    · rintro σ' H' ⟨x, q, rfl, g1, g2, g3, g4, g5, g6, g7⟩
      have gx := DGet.k (k := Sum.inr x) g1
      rw [pm_get g4] at gx
      refine ⟨_, rfl, _, rfl, D, _, rfl, gx, _, rfl, rfl, _, rfl, ?_⟩
      by_cases e : q x = x
      · have e2 : (!decide (V.str (q x) = V.str x)) = false := by rw [e, decide_eq_true rfl]; rfl
        refine iteF2 e2 ?_
        have tx : t = x := g5.uniq (.stop e)
        subst tx
        exact fin _ _ ⟨t, t, q, rfl, g1, g2, g3, g4, e, hR, g6, g7⟩
      · have e2 : (!decide (V.str (q x) = V.str x)) = true := by
          rw [decide_eq_false fun z => e (V.str.inj z)]
          rfl
        refine iteT2 e2 ?_
        have m2 := g2.mem x g4
        have gy := DGet.k (k := Sum.inr (q x)) g1
        rw [pm_get m2] at gy
        refine ⟨_, rfl, _, rfl, _, rfl, D, _, rfl, gx, D, _, rfl, gy, _, rfl, _, rfl, D, _, rfl, DPut.k (k := Sum.inr x) g1 (by rw [pm_len]; exact Nat.lt_trans hl (by decide)), ?_⟩
        rw [pm_put g4]
        have gz := DGet.k (k := Sum.inr x) (upd_same (H := H') (a := D) (o := .dK (PM rs (putP q x (q (q x))))))
        rw [pm_get g4, putP_same] at gz
        refine ⟨_, rfl, _, rfl, D, _, rfl, gz, ?_⟩
        refine ⟨⟨q (q x), putP q x (q (q x)), rfl, upd_same, g2.half g4 e, fun y hy u h => g2.halfRoot g4 e _ y u (Nat.le_refl _) hy (g3 y hy u h), g2.mem _ m2, ?_, fun b o n e' => by rw [upd_ne n]; exact g6 b o n e', fun b z => g7 b (none_upd z).2⟩, ?_⟩
        · have h5 := g2.halfRoot g4 e _ x t (Nat.le_refl _) g4 g5
          cases h5 with
          | stop z =>
            rw [putP_same] at z
            have d2 := g2.down t g4 e
            by_cases y : q (q t) = q t
            · rw [z] at y
              exact absurd y.symm e
            · have d3 := g2.down _ m2 y
              rw [z] at d3
              omega
          | step _ h5 =>
            rw [putP_same] at h5
            exact h5
        · show d (q (q x)) < d x
          have d2 := g2.down x g4 e
          by_cases y : q (q x) = q x
          · rw [y]
            exact d2
          · exact Nat.lt_trans (g2.down _ m2 y) d2
    · rintro σ' H' Q1 Q2 h ⟨y, e1, y2, e2, a1, v, e3, g, y3, e4, s1, k1, e5, q⟩
      exact ⟨y, e1, y2, e2, a1, v, e3, g, y3, e4, s1, k1, e5, h _ _ q⟩
end
end Lamp
set_option maxHeartbeats 4000000
namespace Lamp
open PySem PySem.Spec PyProof.Rows L2
structure TxtR (mg : Str → Option Value) : Prop where
  isi : mg "isinstance" = none
  list : mg "list" = none
  tuple : mg "tuple" = none
section
variable {P : Program} {w : World} {K : PySem.W.Frag} {mg : Str → Option Value} {base : Heap}
/-! ### is_row -/
def spIsRow (K : PySem.W.Frag) : Sp := fun vs H Q _ => ∃ (v : V) (t : Value) (b : Bool), vs = [v] ∧ (∀ H', Same H H' → TyX K H' v t) ∧ PySem.W.kitAny K t [.type "list", .type "tuple"] = some b ∧ ∀ H', Same H H' → (∀ a, H' a = none → H a = none) → Q (.bl b) H'
theorem scIr : FnScope ["thing"] ["thing"] (defScope s_is_row) := ⟨rfl, rfl, rfl, by decide +kernel, rfl, by decide +kernel, by decide +kernel⟩
theorem ok_isrow {f : Addr} {fd : FuncData} (F : Fun K "is_row" "is_row" s_is_row f fd) (T : TxtR mg) : FnOk P w K mg base CX0 1 f fd ["thing"] (spIsRow K) := by
  refine F.ok scIr (fun vs H Q E h => ?_) (fun cdv A outer s H vs Q E hr h => ?_)
  · obtain ⟨v, t, b, rfl, _⟩ := h
    rfl
  · obtain ⟨v, t, b, rfl, ty, kt, k⟩ := h
    refine ⟨_, pss_one (ps_ret (pe_callB call_isiT (by rfl) T.isi PyProof.Rows.Boot.isinstance (pa_cons (pv 0) (pa_cons (pe_tup (pa_cons (pe_bltn (v := .ty "list") (by rfl) T.list PyProof.Rows.Boot.list rfl) (pa_cons (pe_bltn (v := .ty "tuple") (by rfl) T.tuple PyProof.Rows.Boot.tuple rfl) pa_nil))) pa_nil)))), ?_⟩
    refine ⟨_, rfl, by show 2 ≤ sizeLine; decide, fun q nq => ?_⟩
    refine ⟨v, q, _, t, _, b, rfl, upd_same, .cons (.ty _) (.cons (.ty _) .nil), ty _ (same_upd nq), kt, ?_⟩
    exact k _ (same_upd nq) fun a z => (none_upd z).2
end
end Lamp
set_option maxHeartbeats 4000000
namespace Lamp
open PySem PySem.Spec PyProof.Rows L2
structure TxtP (mg : Str → Option Value) : Prop where
  isi : mg "isinstance" = none
  str : mg "str" = none
  len : mg "len" = none
  all : mg "all" = none
section
variable {P : Program} {w : World} {K : PySem.W.Frag} {mg : Str → Option Value} {base : Heap}
/-- a def that stands at its name -/
def Stands (P : Program) (w : World) (K : PySem.W.Frag) (mg : Str → Option Value) (base : Heap) (k : Nat) (x : Str) (ps : List Str) (sp : Sp) : Prop :=
  ∃ (f : Addr) (fd : FuncData), FnOk P w K mg base CX0 k f fd ps sp ∧ mg x = some (.ref f) ∧ PySem.W.keepIn K (.ref f) = true ∧ L2.Binds K fd ps []
/-! ### is_pair_of, of a door of rooms -/
def spPair : Sp := fun vs H Q _ => ∃ (D t : Addr) (x y : Str) (rs : List Str) (p : Str → Str), vs = [.ref D, .ref t] ∧ H D = some (.dK (PM rs p)) ∧ H t = some (.tup [.str x, .str y]) ∧ x ∈ rs ∧ y ∈ rs ∧ x ≠ y ∧ ∀ H', Same H H' → (∀ a, H' a = none → H a = none) → Q (.bl true) H'
theorem scPr : FnScope ["rooms", "thing", "room"] ["rooms", "thing"] (defScope s_is_pair_of) := ⟨rfl, rfl, rfl, by decide +kernel, rfl, by decide +kernel, by decide +kernel⟩
theorem ok_pair {f : Addr} {fd : FuncData} (F : Fun K "is_pair_of" "is_pair_of" s_is_pair_of f fd) (T : TxtP mg) (R : Stands P w K mg base 1 "is_row" ["thing"] (spIsRow K)) : FnOk P w K mg base CX0 2 f fd ["rooms", "thing"] spPair := by
  obtain ⟨fr, dr, Gr, mr, kr, br⟩ := R
  refine F.ok scPr (fun vs H Q E h => ?_) (fun cdv A outer s H vs Q E hr h => ?_)
  · obtain ⟨D, t, x, y, rs, p, rfl, _⟩ := h
    rfl
  · obtain ⟨D, t, x, y, rs, p, rfl, hD, ht, mx, my, ne, k⟩ := h
    have hu := Nat.lt_of_le_of_lt (Nat.add_le_add_left (show 1 ≤ 64 by decide) _) hr.units
    refine ⟨_, pss_cons (ps_if (PW.pt (pw_or (pt_not (pt_val (pe_call Gr hr (by rfl) mr kr br .nil pass0 (pa_cons (pv 1) pa_nil)))) (pw_or1 (pt_cmpR op_ne (pe_callB call_len_seq (by rfl) T.len PySem.boot_len (pa_cons (pv 1) pa_nil)) pe_int (nomark _)))))
        pss_dead pss_nil)
      (pss_one (ps_ret (pe_and (pe_callB (cr_all rfl) (by rfl) T.all PyProof.Rows.Boot.all (pa_cons
          (pe_lc (te := tAndV (tCB (rIsi K) (tCons (tVar 2) (tCons (tC (.ty "str")) tNil))) (tDIn (tVar 2) (tVar 0))) (own := [("room", 2)]) (g := gName 2) (tt := tYes) rfl scPr.nd (pi_tup (pv 1)) (blkOk_by (N := ["rooms", "thing", "room"]) (sc := defScope s_is_pair_of) (by decide +kernel))
            (fun _ _ _ _ _ => pg_name (i := 2) scPr.nd rfl (Or.inl rfl)) (fun _ _ _ _ _ => pts_nil)
            (fun _ _ _ _ _ => by exact (pe_and (pe_callB call_isi (by rfl) T.isi PyProof.Rows.Boot.isinstance (pa_cons (pv 2) (pa_cons (pe_bltn (v := .ty "str") (by rfl) T.str PyProof.Rows.Boot.str rfl) pa_nil))) (pe_one (pe_cmp (pc_din hu (pv 2) (pv 0))))))) pa_nil))
        (pe_one (pe_cmpR op_ne (pe_ix ix_tup (pv 1) pe_int (fun _ _ => rfl)) (pe_ix ix_tup (pv 1) pe_int (fun _ _ => rfl)) (nomark _)))))), ?_⟩
    refine ⟨_, rfl, .ref t, .type "tuple", true, rfl, fun H' s1 => .base (.tup (s1 _ _ ht)), kitAny_cons (b := false) (kit_ty (by decide +kernel)) (fun _ => kitAny_cons (b := true) (kit_ty (by decide +kernel)) (fun z => by cases z) fun _ => rfl) (fun z => by cases z), fun H1 s1 n1 => ⟨_, rfl, iteF ?_⟩⟩
    refine ⟨_, rfl, t, _, rfl, .inr (SqT.of (s1 _ _ ht)), rfl, _, rfl, iteF2 (by rfl) ?_⟩
    have s1n : ∀ {a}, H1 a = none → H a = none := fun {a} z => n1 a z
    refine ⟨_, rfl, t, rfl, ⟨_, SqT.of (s1 _ _ ht)⟩, fun B hB => ?_⟩
    have tB : t ≠ B := ne_of_none (s1 _ _ ht) hB
    refine lc_tup (xs := [.str x, .str y]) (fun j H' => H' B = some (.lst ((List.replicate j true).map V.bl)) ∧ Same H1 H' ∧ ∀ a, H' a = none → H1 a = none) ⟨upd_same, same_upd hB, fun a z => (none_upd z).2⟩ (fun j H' _ g => SqT.of (g.2.1 _ _ (s1 _ _ ht))) ?_ ?_
    · rintro j v H' hv ⟨g1, g2, g3⟩
      have hj : j < 2 := (List.getElem?_eq_some_iff.mp hv).1
      obtain ⟨z, hz, mz⟩ : ∃ z : Str, v = .str z ∧ z ∈ rs := by
        match j, hv with
        | 0, hv => exact ⟨x, (Option.some.inj hv).symm, mx⟩
        | 1, hv => exact ⟨y, (Option.some.inj hv).symm, my⟩
      subst hz
      have gz := DGet.k (k := Sum.inr z) (g2 _ _ (s1 _ _ hD))
      rw [pm_get mz] at gz
      refine ⟨rfl, ⟨_, rfl, .str z, .ty "str", _, _, true, rfl, .ty _, .base (.str z), kit_ty (by decide +kernel), true, rfl, iteT ⟨_, rfl, _, rfl, D, _, rfl, gz, _, g1, ?_, ?_, ?_, ?_⟩⟩⟩
      · rw [List.length_map, List.length_replicate]
        exact Nat.lt_of_lt_of_le hj (by decide)
      · rw [upd_same]
        show some (HO.lst (List.map V.bl (List.replicate j true) ++ [V.bl true])) = some (HO.lst (List.map V.bl (List.replicate (j + 1) true)))
        rw [List.replicate_succ', List.map_append]
        rfl
      · intro b o e
        have nb : b ≠ B := ne_of_none e hB
        rw [upd_ne nb]
        exact g2 b o e
      · exact fun a z => g3 a (none_upd z).2
    · rintro H' ⟨g1, g2, g3⟩
      refine ⟨B, List.replicate 2 true, rfl, .inl (.inl g1), true, by rfl, iteT ?_⟩
      have ht' := g2 _ _ (s1 _ _ ht)
      refine ⟨_, rfl, t, _, 0, .str x, rfl, rfl, SqT.of ht', rfl, _, rfl, t, _, 1, .str y, rfl, rfl, SqT.of ht', rfl, rfl, ?_⟩
      have e2 : (!decide (V.str x = V.str y)) = true := by
        rw [decide_eq_false fun z => ne (V.str.inj z)]
        rfl
      rw [e2]
      exact k H' (s1.trans g2) fun a z => s1n (g3 a z)
end
end Lamp
set_option maxHeartbeats 4000000
namespace Lamp
open PySem PySem.Spec PyProof.Rows L2
section
variable {J : It} {n : Nat} {G : Hp → Prop} {Y : Nat → Hp → V → Hp → Prop} {g : TG} {tt : TT} {tk tv : TE} {ss : List Nat} {τ : L2.St} {Ha : Hp} {D : Addr}
/-- one turn of a dict comprehension: a key and a value go into the dict at D, then N holds -/
abbrev DcTurn (g : TG) (tt : TT) (tk tv : TE) (ss : List Nat) (τ : L2.St) (D : Addr) (N : Hp → Prop) (z : V) (Hb : Hp) : Prop :=
  g z (wipe τ ss) Hb fun τ2 Hc => wipe τ2 ss = wipe τ ss ∧ tt τ2 Hc fun yes Hd => if yes = true then tk τ2 Hd fun kx He => tv τ2 He fun vx Hf => ∃ es ke, kx = kV ke ∧ Hf D = some (.dK es) ∧ es.length < sizeLine ∧ N (upd Hf D (.dK (putK es ke vx))) else N Hd
/-- a dict comprehension over what is walked -/
theorem dc_it (w : Walk J n G Y) {Qd : Hp → Prop} (Pv : Nat → Hp → Prop) (h0 : Pv 0 (upd Ha D (.dK []))) (hG : ∀ i H, i ≤ n → Pv i H → G H) (turn : ∀ i z H Hb, i < n → Pv i H → Y i H z Hb → DcTurn g tt tk tv ss τ D (Pv (i + 1)) z Hb) (fin : ∀ H, Pv n H → Qd H) :
    ∃ R : Nat → Nat → Hp → Prop, (∃ k, R 0 k (upd Ha D (.dK []))) ∧ ∀ i k H, R i k H → (J.stop i H ∧ Qd H) ∨ (J.go i H ∧ ∃ N : Hp → Prop, (∀ Hb, N Hb → ∃ k', k' < k ∧ R (i + 1) k' Hb) ∧ ∀ z Hb, J.yld i H z Hb → DcTurn g tt tk tv ss τ D N z Hb) := by
  refine ⟨fun i k H => i ≤ n ∧ k = n - i ∧ Pv i H, ⟨n, Nat.zero_le _, rfl, h0⟩, ?_⟩
  rintro i k H ⟨hi, rfl, p⟩
  have q := hG i H hi p
  rcases Nat.lt_or_ge i n with lt | ge
  · exact .inr ⟨w.goes i H lt q, Pv (i + 1), fun Hb p' => ⟨n - (i + 1), by omega, lt, rfl, p'⟩, fun z Hb y => turn i z H Hb lt p (w.yields i H z Hb lt q y)⟩
  · obtain rfl : i = n := Nat.le_antisymm hi ge
    exact .inl ⟨w.stops H q, fin H p⟩
end
end Lamp
set_option maxHeartbeats 4000000
namespace Lamp
open PySem PySem.Spec PyProof.Rows
/-- what a comprehension's block asks of its parts -/
abbrev InBlk (X : L2.Cx) (sc : Scope) (R : L2.Cx → Prop) : Prop := ∀ (s₁ : Shared) (H₁ : L2.Hp) (B : Addr) (ls : List (Str × Addr)) (ad : List Addr), R (X.blk s₁ H₁ sc (compEnvC sc ls B X.env) ad)
section
variable {X : L2.Cx}
open L2
/-- y = {k: v for ..}, y a local name -/
theorem ps_setDc {i : Nat} {y : Str} {yp dpos spos : Pos} {ke ve tg iter : Expr} {ifs : List Expr} {sc : Scope} {own : List (Str × Nat)} {wi : TI} {g : TG} {tt : TT} {tk tv : TE}
    (calm : X.calm = true) (nd : X.N.Nodup) (at_ : X.N[i]? = some y) (loc : X.env.scope.names.lookup y = some .local)
    (sw : swapsWith (.DictComp ke ve [⟨tg, iter, ifs, 0⟩] sc dpos) (some (.Name y yp)) spos.line X.env = pure true) (pit : PI X tg iter wi) (blk : BlkOk X.N X.env.scope sc own)
    (pg : InBlk X sc fun Y => PG Y tg g) (pt : InBlk X sc fun Y => PTs Y ifs tt) (pk : InBlk X sc fun Y => PE Y ke tk) (pv : InBlk X sc fun Y => PE Y ve tv) (fold : ∀ z, foldedSetIterable iter X.env z = pure z := by intro _; rfl) :
    PS X (.Assign [.Name y yp] (.DictComp ke ve [⟨tg, iter, ifs, 0⟩] sc dpos) spos) (tAsg (tDc wi g tt tk tv (own.map (·.2))) (gName i)) := by
  constructor
  intro pins s σ H D I h
  rw [exec_Assign_Name_used (hs := sw)]
  apply wpAny_bind; apply wpAny_standAt; apply wpAny_bind
  show wpAny _ X.A (do let _ ← comprehension (.DictComp ke ve [⟨tg, iter, ifs, 0⟩] sc dpos) sc X.env (firstIterPos [⟨tg, iter, ifs, 0⟩] dpos) newDict false (eval iter X.env) (some (assign (.Name y yp) X.env))) _ _ s
  have q0 : tDc wi g tt tk tv (own.map (·.2)) σ H (fun x H1 => gName i x σ H1 D.nx) := h
  have core := dc_core (Qf := fun _ s' => SP X pins D .next s') (use := some (assign (.Name y yp) X.env)) (pos := dpos) (pos' := firstIterPos [⟨tg, iter, ifs, 0⟩] dpos) calm nd I pit blk pg pt pk pv fold q0 (fun L B s' m H' I' q hn f => by
    show wpAny _ _ (assign (.Name y yp) X.env (.ref L)) _ _ _
    obtain ⟨f0, f1, _, f3, f4, f5⟩ := f
    refine wpAny_assign_Name (store_ok2 (v := V.ref L) I' nd at_ (.inl loc) rfl (fun s2 I2 z => ?_) (.inr loc))
    obtain ⟨a, sb, ha⟩ := z
    have ne : B ≠ a := by
      rcases ha with e | e
      · exact e ▸ f1
      · exact fun c => f4 y a e c.symm
    exact ⟨m, hn.sameBut sb ne, fun h3 sb3 => ⟨_, H', I2.turned (t' := s2.toks) (fun b o hb e => (sb3.2 b hb).trans e) f0 f1 f3 f4 f5, q⟩⟩)
  exact wpAny_bind (thn core fun _ s' hq => wpAny_pure (wpAny_pure hq))
theorem sw_dict {ke ve : Expr} {gs : List Comprehension} {sc : Scope} {dpos yp : Pos} {y : Str} {l : Nat} {env : Env} (fn : env.scope.kind = .function) (loc : env.scope.names.lookup y = some .local) (ln : (yp.line == dpos.line) = true)
    (nin : (sc.names.any fun (n, k) => n == y && (k == .local || k == .cell)) = false) : swapsWith (.DictComp ke ve gs sc dpos) (some (.Name y yp)) l env = pure true := by
  have k1 : env.kindOf y = some .local := loc
  have k2 : env.blockKind = .function := by
    unfold Env.blockKind
    rw [fn]
    rfl
  unfold swapsWith
  simp only [k2, k1, nin, Expr.pos, ln]
  rfl
end
end Lamp
set_option maxHeartbeats 8000000
namespace Lamp
open PySem PySem.Spec PyProof.Rows L2
theorem pm_new {p : Str → Str} {r v : Str} {rs : List Str} (m : r ∉ rs) (hv : p r = v) : putK (PM rs p) (Sum.inr r) (.str v) = PM (rs ++ [r]) p := by
  unfold putK
  have a : ¬ ((PM rs p).any fun kv => decide (kv.1 = (Sum.inr r : Key))) = true := fun z => by
    obtain ⟨kv, h1, h2⟩ := List.any_eq_true.mp z
    obtain ⟨x, hx, rfl⟩ := List.mem_map.mp h1
    exact m (Sum.inr.inj (of_decide_eq_true h2) ▸ hx)
  rw [if_neg a]
  unfold PM
  rw [List.map_append, ← hv]
  rfl
structure TxtD (mg : Str → Option Value) : Prop where
  enu : mg "enumerate" = none
theorem paired_at {α β : Type} {R : α → β → Prop} : ∀ {xs : List α} {ys : List β} {i : Nat} {x : α}, Paired R xs ys → xs[i]? = some x → ∃ y, ys[i]? = some y ∧ R x y
  | [], [], _, _, .nil, h => by cases h
  | a :: xs, b :: ys, 0, x, .cons r _, h => by
    have e : a = x := Option.some.inj h
    subst e
    exact ⟨b, rfl, r⟩
  | a :: xs, b :: ys, i + 1, x, .cons _ q, h => paired_at (i := i) q h
theorem split_at {α : Type} {l : List α} {i : Nat} {x : α} (h : l[i]? = some x) : l = l.take i ++ x :: l.drop (i + 1) := by
  obtain ⟨hi, e⟩ := List.getElem?_eq_some_iff.mp h
  rw [← e, List.getElem_cons_drop, List.take_append_drop]
theorem root_back {rs : List Str} {p q : Str → Str} {d : Str → Nat} (F : Forest rs p d) (h : ∀ x ∈ rs, ∀ u, Root p x u → Root q x u) {x t : Str} (hx : x ∈ rs) (g : Root q x t) : Root p x t := by
  obtain ⟨u, _, hu⟩ := F.root _ x (Nat.le_refl _) hx
  rw [g.uniq (h x hx u hu)]
  exact hu
section
variable {P : Program} {w : World} {K : PySem.W.Frag} {mg : Str → Option Value} {base : Heap}
/-! ### doors_fault of doors that close no ring -/
def GoodDoors (rs : List Str) (es : List Ed) : Prop := ∀ l1 e l2, es = l1 ++ e :: l2 → e.1 ∈ rs ∧ e.2 ∈ rs ∧ e.1 ≠ e.2 ∧ ¬ Conn l1 e.1 e.2
def spDoors (K : PySem.W.Frag) : Sp := fun vs H Q _ => ∃ (a b : Addr) (rs : List Str) (ts : List Addr) (es : List Ed), vs = [.ref a, .ref b] ∧ SqL K H a (rs.map V.str) ∧ SqL K H b (ts.map V.ref) ∧ (∀ H', Same H H' → TyX K H' (.ref b) (.type "list")) ∧ TupsAt H ts es ∧ rs.Nodup ∧ rs.length < 1000 ∧ GoodDoors rs es ∧
  ∀ H', Same H H' → (∀ a, H' a = none → H a = none) → Q .non H'
abbrev NDr : List Str := ["rooms", "doors", "leaders", "index", "door", "one", "other", "room"]
theorem scDr : FnScope NDr ["rooms", "doors"] (defScope s_doors_fault) := ⟨rfl, rfl, rfl, by decide +kernel, rfl, by decide +kernel, by decide +kernel⟩
theorem ok_doors {f : Addr} {fd : FuncData} (F : Fun K "doors_fault" "doors_fault" s_doors_fault f fd) (T : TxtD mg) (R : Stands P w K mg base 1 "is_row" ["thing"] (spIsRow K)) (PO : Stands P w K mg base 2 "is_pair_of" ["rooms", "thing"] spPair) (LO : Stands P w K mg base 1 "leader_of" ["leaders", "room"] spLeader) :
    FnOk P w K mg base CX0 3 f fd ["rooms", "doors"] (spDoors K) := by
  obtain ⟨fr, dr, Gr, mr, kr, br⟩ := R
  obtain ⟨fp, dp, Gp, mp, kp, bp⟩ := PO
  obtain ⟨fl, dl, Gl, ml, kl, bl⟩ := LO
  refine F.ok scDr (fun vs H Q E h => ?_) (fun cdv A outer s H vs Q E hr h => ?_)
  · obtain ⟨a, b, rs, ts, es, rfl, _⟩ := h
    rfl
  · obtain ⟨a, b, rs, ts, es, rfl, ha, hb, tyb, ht, nd, hl, good, k⟩ := h
    have hu := Nat.lt_of_le_of_lt (Nat.add_le_add_left (show 1 ≤ 64 by decide) _) hr.units
    refine ⟨_, pss_cons (ps_if (pt_not (pt_val (pe_call Gr (hr.mono (by decide)) (by rfl) mr kr br .nil pass0 (pa_cons (pv 1) pa_nil)))) pss_dead pss_nil)
      (pss_cons (ps_setDc (i := 2) (tk := tVar 7) (tv := tVar 7) (own := [("room", 7)]) (g := gName 7) (tt := tYes) rfl scDr.nd rfl rfl (sw_dict rfl rfl rfl (by decide +kernel)) (pi_list (pv 0)) (blkOk_by (N := NDr) (sc := defScope s_doors_fault) (by decide +kernel))
        (fun _ _ _ _ _ => pg_name (i := 7) scDr.nd rfl (Or.inl rfl)) (fun _ _ _ _ _ => pts_nil) (fun _ _ _ _ _ => pv 7) (fun _ _ _ _ _ => pv 7))
      (pss_cons (ps_for PassesOwn.never rfl (pi_enum (by rfl) T.enu (pa_cons (pv 1) pa_nil)) (pg_tup rfl (pgs_cons (pg_name (i := 3) scDr.nd rfl (Or.inl rfl)) (pgs_cons (pg_name (i := 4) scDr.nd rfl (Or.inl rfl)) pgs_nil)))
        (pss_cons (ps_if (pt_not (pt_val (pe_call Gp hr (by rfl) mp kp bp .nil pass0 (pa_cons (pv 2) (pa_cons (pv 4) pa_nil))))) pss_dead pss_nil)
        (pss_cons (ps_set (i := 5) scDr.nd rfl (Or.inl rfl) (pe_call Gl (hr.mono (by decide)) (by rfl) ml kl bl .nil pass0 (pa_cons (pv 2) (pa_cons (pe_ix ix_tup (pv 4) pe_int (fun _ _ => rfl)) pa_nil))))
        (pss_cons (ps_set (i := 6) scDr.nd rfl (Or.inl rfl) (pe_call Gl (hr.mono (by decide)) (by rfl) ml kl bl .nil pass0 (pa_cons (pv 2) (pa_cons (pe_ix ix_tup (pv 4) pe_int (fun _ _ => rfl)) pa_nil))))
        (pss_cons (ps_if (pt_cmpR op_eq (pv 5) (pv 6) (nomark _)) pss_dead pss_nil)
        (pss_one (ps_dput hu (pv 2) (pv 5) (pv 6) (by rfl))))))))
      (pss_one (ps_ret pe_non)))), ?_⟩
    refine ⟨_, rfl, .ref b, .type "list", true, rfl, tyb, kitAny_cons (b := true) (kit_ty (by decide +kernel)) (fun z => by cases z) fun _ => rfl, fun H1 s1 n1 => ⟨_, rfl, iteF ?_⟩⟩
    refine ⟨_, rfl, a, rfl, ⟨_, s1.seq ha⟩, fun D hD => ?_⟩
    refine dc_it (walk_list (xs := rs.map V.str)) (fun j H' => H' D = some (.dK (PM (rs.take j) id)) ∧ Same H1 H' ∧ ∀ x, H' x = none → H1 x = none) ⟨upd_same, same_upd hD, fun x z => (none_upd z).2⟩ (fun j H' _ g => (s1.trans g.2.1).seq ha) ?_ ?_
    · rintro j v H' H'' hj ⟨g1, g2, g3⟩ ⟨rfl, hv⟩
      have hj2 : j < rs.length := by simpa using hj
      have ev : v = .str rs[j] := by
        rw [List.getElem?_map, List.getElem?_eq_getElem hj2] at hv
        exact (Option.some.inj hv).symm
      subst ev
      refine ⟨rfl, _, rfl, _, rfl, _, Sum.inr rs[j], rfl, g1, ?_, ?_, ?_, ?_⟩
      · rw [pm_len, List.length_take]
        exact Nat.lt_of_le_of_lt (Nat.min_le_left _ _) (Nat.lt_trans (Nat.lt_trans hj2 hl) (by decide))
      · rw [upd_same]
        have nm : rs[j] ∉ rs.take j := fun z => by
          have z2 : (rs.take j ++ rs.drop j).Nodup := by
            rw [List.take_append_drop]
            exact nd
          exact (List.nodup_append.mp z2).2.2 _ z _ (by
            rw [← List.getElem_cons_drop hj2]
            exact List.mem_cons_self) rfl
        rw [pm_new (p := id) (v := rs[j]) nm rfl, List.take_append_getElem hj2]
      · intro x o e
        have nx : x ≠ D := ne_of_none e hD
        rw [upd_ne nx]
        exact g2 x o e
      · exact fun x z => g3 x (none_upd z).2
    · rintro H2 ⟨g1, g2, g3⟩
      rw [List.length_map, List.take_length] at g1
      have hb2 : SqL K H2 b (ts.map V.ref) := (s1.trans g2).seq hb
      have s2 : Same H H2 := s1.trans g2
      have nD : ∀ {x : Addr} {o : HO}, H x = some o → x ≠ D := fun e => ne_of_none (s1 _ _ e) hD
      refine ⟨_, rfl, b, _, rfl, hb2, ?_⟩
      refine for_it (walk_enum (xs := ts.map V.ref)) (fun i σ' H' => ∃ (p : Str → Str) (d : Str → Nat) (v3 v4 v5 v6 v7 : Option V), σ' = [some (.ref a), some (.ref b), some (.ref D), v3, v4, v5, v6, v7] ∧ H' D = some (.dK (PM rs p)) ∧ Forest rs p d ∧ (∀ x ∈ rs, ∀ t, Root p x t → Conn (es.take i) x t) ∧ Same H H' ∧ ∀ x, H' x = none → H x = none) ?_ ?_ ?_ ?_
      · refine ⟨id, fun _ => 0, _, _, _, _, _, rfl, g1, ⟨fun r h => h, fun r _ n => absurd rfl n⟩, fun x _ t h => ?_, s2, fun x z => n1 x (g3 x z)⟩
        cases h with
        | stop _ => exact .refl _
        | step n _ => exact absurd rfl n
      · rintro i σ' H' _ ⟨p, d, v3, v4, v5, v6, v7, rfl, q1, q2, q3, q4, q5⟩
        exact q4.seq hb
      · rintro i v σ' H' H'' hi ⟨p, d, v3, v4, v5, v6, v7, rfl, q1, q2, q3, q4, q5⟩ ⟨T0, x0, y0, rfl, nT, rfl, e1, e2⟩
        obtain rfl := Option.some.inj e1
        replace e2 : (ts.map V.ref)[i]? = some y0 := e2
        rw [List.getElem?_map] at e2
        obtain ⟨t, et, rfl⟩ := Option.map_eq_some_iff.mp e2
        obtain ⟨e, ee, te⟩ := paired_at ht et
        have sp := split_at ee
        obtain ⟨m1, m2, ne, nc⟩ := good _ _ _ sp
        have nTD : D ≠ T0 := ne_of_none q1 nT
        have t1 : H' t = some (.tup [.str e.1, .str e.2]) := q4 _ _ te
        have t2 := same_upd (o := .tup [.int (i : Nat), .ref t]) nT
        refine ⟨T0, _, rfl, SqT.of upd_same, rfl, _, _, rfl, _, _, rfl, rfl, ?_⟩
        refine ⟨_, rfl, _, rfl, D, t, e.1, e.2, rs, p, rfl, t2 _ _ q1, t2 _ _ t1, m1, m2, ne, fun H3 s3 n3 => ⟨_, rfl, iteF ?_⟩⟩
        have u1 : H3 t = some (.tup [.str e.1, .str e.2]) := s3 _ _ (t2 _ _ t1)
        refine ⟨_, rfl, _, rfl, t, _, 0, .str e.1, rfl, rfl, SqT.of u1, rfl, D, e.1, rs, p, d, rfl, s3 _ _ (t2 _ _ q1), q2, m1, hl, fun H4 p4 r4 w1 w2 w3 w4 w5 w6 w7 => ?_⟩
        have ntD : t ≠ D := nD te
        have u2 := w6 _ _ ntD u1
        refine ⟨_, rfl, _, rfl, t, _, 1, .str e.2, rfl, rfl, SqT.of u2, rfl, D, e.2, rs, p4, d, rfl, w1, w2, m2, hl, fun H5 p5 r5 x1 x2 x3 x4 x5 x6 x7 => ?_⟩
        have b4 : ∀ x ∈ rs, ∀ u, Root p4 x u → Root p x u := fun x hx u h => root_back q2 w3 hx h
        have b5 : ∀ x ∈ rs, ∀ u, Root p5 x u → Root p x u := fun x hx u h => b4 x hx u (root_back w2 x3 hx h)
        have c4 : Conn (es.take i) e.1 r4 := q3 _ m1 _ w5
        have c5 : Conn (es.take i) e.2 r5 := q3 _ m2 _ (b4 _ m2 _ x5)
        have n45 : r4 ≠ r5 := fun z => nc (c4.trans (z ▸ c5.symm))
        have f4 : p5 r4 = r4 := (x3 _ w4 _ (w3 _ w4 _ (.stop w5.top))).top
        have f5 : p5 r5 = r5 := (x3 _ x4 _ (.stop x5.top)).top
        refine ⟨_, rfl, _, rfl, rfl, _, rfl, iteF2 (decide_eq_false fun z => n45 (V.str.inj z)) ?_⟩
        refine ⟨_, rfl, _, rfl, _, rfl, D, _, rfl, DPut.k (k := Sum.inr r4) x1 (by rw [pm_len]; exact Nat.lt_trans hl (by decide)), ?_⟩
        rw [pm_put w4]
        obtain ⟨d', F'⟩ := x2.join w4 x4 f4 f5 n45
        have tk : es.take (i + 1) = es.take i ++ [e] := by
          rw [List.take_add_one, ee]
          rfl
        have old : ∀ z ∈ es.take i, z ∈ es.take (i + 1) := fun z hz => by
          rw [tk]
          exact List.mem_append_left _ hz
        have new : (e.1, e.2) ∈ es.take (i + 1) := by
          rw [tk]
          exact List.mem_append_right _ (List.mem_singleton.mpr rfl)
        refine ⟨_, d', _, _, _, _, _, rfl, upd_same, F', fun x hx u h => ?_, fun x o h => ?_, fun x z => ?_⟩
        · rcases join_root f4 f5 n45 h with ⟨h1, _⟩ | ⟨h1, rfl⟩
          · exact (q3 _ hx _ (b5 _ hx _ h1)).mono old
          · have c1 : Conn (es.take (i + 1)) x r4 := (q3 _ hx _ (b5 _ hx _ h1)).mono old
            exact ((c1.trans (c4.symm.mono old)).trans (.fwd (.refl _) new)).trans (c5.mono old)
        · have nx := nD h
          rw [upd_ne nx]
          exact x6 _ _ nx (w6 _ _ nx (s3 _ _ (t2 _ _ (q4 _ _ h))))
        · exact q5 x (none_upd (n3 x (w7 x (x7 x (none_upd z).2)))).2
      · rintro σ' H' ⟨p, d, v3, v4, v5, v6, v7, rfl, q1, q2, q3, q4, q5⟩
        exact k H' q4 q5
end
end Lamp
set_option maxHeartbeats 8000000
namespace Lamp
open PySem PySem.Spec PyProof.Rows L2
/-! ### names -/
abbrev lets : Str := "abcdefghijklmnopqrstuvwxyz"
abbrev figs : Str := "0123456789"
def nameOk (z : Str) : Bool := decide (1 ≤ z.length) && (decide (z.length ≤ 12) && ((match z.cps.toList with
  | c :: _ => decide (c ∈ lets.cps.toList)
  | [] => false) && z.cps.toList.all fun c => decide (c ∈ lets.cps.toList) || decide (c ∈ figs.cps.toList)))
structure TxtN (mg : Str → Option Value) : Prop where
  isi : mg "isinstance" = none
  str : mg "str" = none
  len : mg "len" = none
  all : mg "all" = none
  lets : ∃ t, mg "LETTERS" = some (.str lets t)
  figs : ∃ t, mg "FIGURES" = some (.str figs t)
  long : ∃ t, mg "LONGEST_NAME" = some (.int 12 t)
section
variable {P : Program} {w : World} {K : PySem.W.Frag} {mg : Str → Option Value} {base : Heap}
def spName : Sp := fun vs H Q _ => ∃ z : Str, vs = [.str z] ∧ nameOk z = true ∧ ∀ H', Same H H' → (∀ a, H' a = none → H a = none) → Q (.bl true) H'
abbrev NNm : List Str := ["thing", "sign"]
theorem scNm : FnScope NNm ["thing"] (defScope s_is_name) := ⟨rfl, rfl, rfl, by decide +kernel, rfl, by decide +kernel, by decide +kernel⟩
theorem ok_name {f : Addr} {fd : FuncData} (F : Fun K "is_name" "is_name" s_is_name f fd) (T : TxtN mg) : FnOk P w K mg base CX0 1 f fd ["thing"] spName := by
  obtain ⟨tl, gl⟩ := T.lets
  obtain ⟨tf, gf⟩ := T.figs
  obtain ⟨tn, gn⟩ := T.long
  refine F.ok scNm (fun vs H Q E h => ?_) (fun cdv A outer s H vs Q E hr h => ?_)
  · obtain ⟨z, rfl, _⟩ := h
    rfl
  · obtain ⟨z, rfl, ok, k⟩ := h
    obtain ⟨o1, ok⟩ := Bool.and_eq_true_iff.mp ok
    obtain ⟨o2, ok⟩ := Bool.and_eq_true_iff.mp ok
    obtain ⟨o3, o4⟩ := Bool.and_eq_true_iff.mp ok
    have l1 : 1 ≤ z.length := of_decide_eq_true o1
    have l2 : z.length ≤ 12 := of_decide_eq_true o2
    have ls : z.length ≤ sizeLine := Nat.le_trans l2 (by decide)
    refine ⟨_, pss_cons (ps_if (PW.pt (pw_or (pt_not (pt_val (pe_callB call_isi (by rfl) T.isi PyProof.Rows.Boot.isinstance (pa_cons (pv 0) (pa_cons (pe_bltn (v := .ty "str") (by rfl) T.str PyProof.Rows.Boot.str rfl) pa_nil)))))
          (pw_or1 (pt_not (pt_chain op_le op_le pe_int (pe_callB call_len_str (by rfl) T.len PySem.boot_len (pa_cons (pv 0) pa_nil)) (pe_glob (v := .int 12) (by rfl) gn ⟨tn, rfl⟩))))))
        pss_dead pss_nil)
      (pss_one (ps_ret (pe_and (pe_cmpR op_in_sign (pe_ix ix_str (pv 0) pe_int (fun _ _ => rfl)) (pe_glob (v := .str lets) (by rfl) gl ⟨tl, rfl⟩) (by rfl))
        (pe_one (pe_callB (cr_all rfl) (by rfl) T.all PyProof.Rows.Boot.all (pa_cons
          (pe_lc (te := tOrV (tOp (fun x y H Q => ∃ (c : Nat) (z : Str), x = .str ⟨#[c]⟩ ∧ y = .str z ∧ Q (.bl (decide (c ∈ z.cps.toList))) H) (tVar 1) (tC (.str lets))) (tOp (fun x y H Q => ∃ (c : Nat) (z : Str), x = .str ⟨#[c]⟩ ∧ y = .str z ∧ Q (.bl (decide (c ∈ z.cps.toList))) H) (tVar 1) (tC (.str figs)))) (own := [("sign", 1)]) (g := gName 1) (tt := tYes) rfl scNm.nd (pi_str (pv 0)) (blkOk_by (N := NNm) (sc := defScope s_is_name) (by decide +kernel))
            (fun _ _ _ _ _ => pg_name (i := 1) scNm.nd rfl (Or.inl rfl)) (fun _ _ _ _ _ => pts_nil)
            (fun _ _ _ _ _ => by exact (pe_or (pe_cmpR op_in_sign (pv 1) (pe_glob (v := .str lets) (by rfl) gl ⟨tl, rfl⟩) (by rfl)) (pe_one (pe_cmpR op_in_sign (pv 1) (pe_glob (v := .str figs) (by rfl) gf ⟨tf, rfl⟩) (by rfl)))))) pa_nil)))))), ?_⟩
    refine ⟨_, rfl, .str z, .ty "str", _, _, true, rfl, .ty _, .base (.str z), kit_ty (by decide +kernel), _, rfl, iteF ?_⟩
    refine ⟨_, rfl, _, rfl, ls, ?_⟩
    refine ⟨_, _, rfl, rfl, _, rfl, iteT2 (decide_eq_true (by omega)) ⟨_, _, rfl, rfl, _, rfl, iteF2 (by rw [decide_eq_true (by omega)]; rfl) ?_⟩⟩
    obtain ⟨c, cs, ec⟩ : ∃ c cs, z.cps.toList = c :: cs := by
      cases e : z.cps.toList with
      | nil =>
        rw [e] at o3
        cases o3
      | cons c cs => exact ⟨c, cs, rfl⟩
    rw [ec] at o3
    refine ⟨_, rfl, z, 0, c, rfl, rfl, ls, ?_, c, lets, rfl, rfl, _, rfl, iteT2 o3 ?_⟩
    · rw [ec]
      exact atI_nat (j := 0) rfl
    refine ⟨_, rfl, z, rfl, fun B hB => ?_⟩
    refine lc_it walk_str (fun j H' => H' B = some (.lst ((List.replicate j true).map V.bl)) ∧ Same H H' ∧ ∀ a, H' a = none → H a = none) ⟨upd_same, same_upd hB, fun a y => (none_upd y).2⟩ (fun _ _ _ _ => trivial) ?_ ?_
    · rintro j v H' H'' hj ⟨g1, g2, g3⟩ ⟨rfl, c', hc, rfl⟩
      have mem : c' ∈ z.cps.toList := List.mem_of_getElem? (by rw [Array.getElem?_toList]; exact hc)
      have hq := List.all_eq_true.mp o4 c' mem
      have fin : ∀ b : Bool, b = true → ∃ acc, H'' B = some (.lst acc) ∧ acc.length < sizeLine ∧ upd H'' B (.lst (acc ++ [V.bl b])) B = some (.lst ((List.replicate (j + 1) true).map V.bl)) ∧ Same H (upd H'' B (.lst (acc ++ [V.bl b]))) ∧ ∀ a, upd H'' B (.lst (acc ++ [V.bl b])) a = none → H a = none := fun b hb => by
        subst hb
        refine ⟨_, g1, ?_, ?_, fun x o e => ?_, fun a y => g3 a (none_upd y).2⟩
        · rw [List.length_map, List.length_replicate]
          exact Nat.lt_of_lt_of_le hj (Nat.le_trans (show z.cps.size ≤ 12 from l2) (by decide))
        · rw [upd_same, List.replicate_succ', List.map_append]
          rfl
        · have nx : x ≠ B := ne_of_none e hB
          rw [upd_ne nx]
          exact g2 x o e
      refine ⟨rfl, _, rfl, c', lets, rfl, rfl, _, rfl, ?_⟩
      by_cases m : c' ∈ lets.cps.toList
      · exact iteT2 (decide_eq_true m) (fin true rfl)
      · refine iteF2 (decide_eq_false m) ⟨_, rfl, c', figs, rfl, rfl, fin _ ?_⟩
        rw [decide_eq_false m, Bool.false_or] at hq
        exact hq
    · rintro H' ⟨g1, g2, g3⟩
      exact ⟨B, _, rfl, .inl (.inl g1), by
        have e : (List.replicate z.cps.size true).all id = true := List.all_eq_true.mpr fun b hb => (List.eq_of_mem_replicate hb)
        rw [e]
        exact k H' g2 g3⟩
end
end Lamp
set_option maxHeartbeats 8000000
namespace Lamp
open PySem PySem.Spec PyProof.Rows L2
/-! ### rooms_fault of unlike names -/
/-- a dict from rooms to True -/
def SM (rs : List Str) : List (Key × V) := rs.map fun r => ((Sum.inr r : Key), V.bl true)
theorem sm_len {rs : List Str} : (SM rs).length = rs.length := List.length_map _
theorem sm_get {r : Str} : ∀ {rs : List Str}, (valV (SM rs) (Sum.inr r)).isSome = decide (r ∈ rs)
  | [] => rfl
  | x :: rs => by
    by_cases e : x = r
    · subst e
      simp [SM, valV]
    · have ih := sm_get (r := r) (rs := rs)
      have : valV (SM (x :: rs)) (Sum.inr r) = valV (SM rs) (Sum.inr r) := by simp [SM, valV, e]
      rw [this, ih]
      exact decide_eq_decide.mpr ⟨fun m => List.mem_cons_of_mem _ m, fun m => by
        rcases List.mem_cons.mp m with z | z
        · exact absurd z.symm e
        · exact z⟩
theorem sm_new {r : Str} {rs : List Str} (m : r ∉ rs) : putK (SM rs) (Sum.inr r) (.bl true) = SM (rs ++ [r]) := by
  unfold putK
  have a : ¬ ((SM rs).any fun kv => decide (kv.1 = (Sum.inr r : Key))) = true := fun z => by
    obtain ⟨kv, h1, h2⟩ := List.any_eq_true.mp z
    obtain ⟨x, hx, rfl⟩ := List.mem_map.mp h1
    exact m (Sum.inr.inj (of_decide_eq_true h2) ▸ hx)
  rw [if_neg a]
  unfold SM
  rw [List.map_append]
  rfl
theorem take_not {α : Type} {l : List α} {i : Nat} (nd : l.Nodup) (hi : i < l.length) : l[i] ∉ l.take i := fun z => by
  have z2 : (l.take i ++ l.drop i).Nodup := by
    rw [List.take_append_drop]
    exact nd
  exact (List.nodup_append.mp z2).2.2 _ z _ (by
    rw [← List.getElem_cons_drop hi]
    exact List.mem_cons_self) rfl
structure TxtM (mg : Str → Option Value) : Prop where
  len : mg "len" = none
  enu : mg "enumerate" = none
section
variable {P : Program} {w : World} {K : PySem.W.Frag} {mg : Str → Option Value} {base : Heap}
def spRoomsF (K : PySem.W.Frag) : Sp := fun vs H Q _ => ∃ (a : Addr) (rs : List Str), vs = [.ref a] ∧ SqL K H a (rs.map V.str) ∧ (∀ H', Same H H' → TyX K H' (.ref a) (.type "list")) ∧ rs.Nodup ∧ rs ≠ [] ∧ rs.length < 1000 ∧ (∀ r ∈ rs, nameOk r = true) ∧
  ∀ H', Same H H' → (∀ x, H' x = none → H x = none) → Q .non H'
abbrev NRf : List Str := ["rooms", "seen", "index", "room"]
theorem scRf : FnScope NRf ["rooms"] (defScope s_rooms_fault) := ⟨rfl, rfl, rfl, by decide +kernel, rfl, by decide +kernel, by decide +kernel⟩
theorem ok_roomsf {f : Addr} {fd : FuncData} (F : Fun K "rooms_fault" "rooms_fault" s_rooms_fault f fd) (T : TxtM mg) (R : Stands P w K mg base 1 "is_row" ["thing"] (spIsRow K)) (NO : Stands P w K mg base 1 "is_name" ["thing"] spName) :
    FnOk P w K mg base CX0 2 f fd ["rooms"] (spRoomsF K) := by
  obtain ⟨fr, dr, Gr, mr, kr, br⟩ := R
  obtain ⟨fn, dn, Gn, mn, kn, bn⟩ := NO
  refine F.ok scRf (fun vs H Q E h => ?_) (fun cdv A outer s H vs Q E hr h => ?_)
  · obtain ⟨a, rs, rfl, _⟩ := h
    rfl
  · obtain ⟨a, rs, rfl, ha, tya, nd, ne, hl, ok, k⟩ := h
    have hu := Nat.lt_of_le_of_lt (Nat.add_le_add_left (show 1 ≤ 64 by decide) _) hr.units
    refine ⟨_, pss_cons (ps_if (PW.pt (pw_or (pt_not (pt_val (pe_call Gr hr (by rfl) mr kr br .nil pass0 (pa_cons (pv 0) pa_nil)))) (pw_or1 (pt_cmpR op_eq (pe_callB call_len_seq (by rfl) T.len PySem.boot_len (pa_cons (pv 0) pa_nil)) pe_int (nomark _))))) pss_dead pss_nil)
      (pss_cons (ps_set (i := 1) scRf.nd rfl (Or.inl rfl) pe_dnewK)
      (pss_cons (ps_for PassesOwn.never rfl (pi_enum (by rfl) T.enu (pa_cons (pv 0) pa_nil)) (pg_tup rfl (pgs_cons (pg_name (i := 2) scRf.nd rfl (Or.inl rfl)) (pgs_cons (pg_name (i := 3) scRf.nd rfl (Or.inl rfl)) pgs_nil)))
        (pss_cons (ps_if (PW.pt (pw_or (pt_not (pt_val (pe_call Gn hr (by rfl) mn kn bn .nil pass0 (pa_cons (pv 3) pa_nil)))) (pw_or1 (pt_cmp (pc_din hu (pv 3) (pv 1)) (by rfl))))) pss_dead pss_nil)
        (pss_one (ps_dput hu (pv 1) (pv 3) pe_bl (by rfl)))))
      (pss_one (ps_ret pe_non)))), ?_⟩
    refine ⟨_, rfl, .ref a, .type "list", true, rfl, tya, kitAny_cons (b := true) (kit_ty (by decide +kernel)) (fun z => by cases z) fun _ => rfl, fun H1 s1 n1 => ⟨_, rfl, iteF ?_⟩⟩
    have l0 : (rs.map V.str).length ≠ 0 := fun z => ne (List.length_eq_zero_iff.mp (by rw [List.length_map] at z; exact z))
    refine ⟨_, rfl, a, _, rfl, .inl (s1.seq ha), rfl, _, rfl, iteF2 (decide_eq_false fun z => l0 (by have := V.int.inj z; omega)) ?_⟩
    refine fun D hD => ?_
    have s2 : Same H (upd H1 D (.dK [])) := s1.trans (same_upd hD)
    have nD : ∀ {x : Addr} {o : HO}, H x = some o → x ≠ D := fun e => ne_of_none (s1 _ _ e) hD
    refine ⟨_, rfl, a, _, rfl, s2.seq ha, ?_⟩
    refine for_it (walk_enum (xs := rs.map V.str)) (fun i σ' H' => ∃ v2 v3 : Option V, σ' = [some (.ref a), some (.ref D), v2, v3] ∧ H' D = some (.dK (SM (rs.take i))) ∧ Same H H' ∧ ∀ x, H' x = none → H x = none) ?_ ?_ ?_ ?_
    · exact ⟨_, _, rfl, upd_same, s2, fun x z => n1 x (none_upd z).2⟩
    · rintro i σ' H' _ ⟨v2, v3, rfl, q1, q2, q3⟩
      exact q2.seq ha
    · rintro i v σ' H' H'' hi ⟨v2, v3, rfl, q1, q2, q3⟩ ⟨T0, x0, y0, rfl, nT, rfl, e1, e2⟩
      obtain rfl := Option.some.inj e1
      have hi2 : i < rs.length := by simpa using hi
      obtain rfl : V.str rs[i] = y0 := by
        replace e2 : (rs.map V.str)[i]? = some y0 := e2
        rw [List.getElem?_map, List.getElem?_eq_getElem hi2] at e2
        exact Option.some.inj e2
      have nTD : D ≠ T0 := ne_of_none q1 nT
      have t2 := same_upd (o := .tup [.int (i : Nat), .str rs[i]]) nT
      refine ⟨T0, _, rfl, SqT.of upd_same, rfl, _, _, rfl, _, _, rfl, rfl, ?_⟩
      refine ⟨_, rfl, rs[i], rfl, ok _ (List.getElem_mem hi2), fun H3 s3 n3 => ⟨_, rfl, iteF ?_⟩⟩
      have u1 := s3 _ _ (t2 _ _ q1)
      have g := DGet.k (k := Sum.inr rs[i]) u1
      have nm := take_not nd hi2
      refine ⟨_, rfl, _, rfl, D, _, rfl, g, _, rfl, iteF2 (by rw [sm_get]; exact decide_eq_false nm) ?_⟩
      refine ⟨_, rfl, _, rfl, D, _, rfl, DPut.k (k := Sum.inr rs[i]) u1 (by rw [sm_len, List.length_take]; exact Nat.lt_of_le_of_lt (Nat.min_le_left _ _) (Nat.lt_trans (Nat.lt_trans hi2 hl) (by decide))), ?_⟩
      rw [sm_new nm, List.take_append_getElem hi2]
      refine ⟨_, _, rfl, upd_same, fun x o e => ?_, fun x z => q3 x (none_upd (n3 x (none_upd z).2)).2⟩
      rw [upd_ne (nD e)]
      exact s3 _ _ (t2 _ _ (q2 _ _ e))
    · rintro σ' H' ⟨v2, v3, rfl, q1, q2, q3⟩
      exact k H' q2 q3
end
end Lamp
set_option maxHeartbeats 8000000
namespace Lamp
open PySem PySem.Spec PyProof.Rows L2
/-! ### rooms_by_doors -/
def putA (nf : Str → Addr) (r : Str) (v : Addr) : Str → Addr := fun x => if x = r then v else nf x
theorem putA_same {nf : Str → Addr} {r : Str} {v : Addr} : putA nf r v r = v := if_pos rfl
theorem putA_ne {nf : Str → Addr} {r x : Str} {v : Addr} (h : x ≠ r) : putA nf r v x = nf x := if_neg h
theorem nm_len {nf : Str → Addr} {rs : List Str} : (NM rs nf).length = rs.length := List.length_map _
theorem nm_new {nf : Str → Addr} {r : Str} {v : Addr} {rs : List Str} (m : r ∉ rs) : putK (NM rs nf) (Sum.inr r) (.ref v) = NM (rs ++ [r]) (putA nf r v) := by
  unfold putK
  have a : ¬ ((NM rs nf).any fun kv => decide (kv.1 = (Sum.inr r : Key))) = true := fun z => by
    obtain ⟨kv, h1, h2⟩ := List.any_eq_true.mp z
    obtain ⟨x, hx, rfl⟩ := List.mem_map.mp h1
    exact m (Sum.inr.inj (of_decide_eq_true h2) ▸ hx)
  rw [if_neg a]
  unfold NM
  rw [List.map_append]
  congr 1
  · refine List.map_congr_left fun x hx => ?_
    rw [putA_ne (fun z : x = r => m (z ▸ hx))]
  · show [(Sum.inr r, V.ref v)] = [(Sum.inr r, V.ref (putA nf r v r))]
    rw [putA_same]
theorem near_snoc {ds : List Ed} {d : Ed} {r : Str} : nearOf (ds ++ [d]) r = nearOf ds r ++ (if d.1 = r then [d.2] else if d.2 = r then [d.1] else []) := by
  unfold nearOf
  rw [List.filterMap_append]
  congr 1
  by_cases h1 : d.1 = r
  · simp [h1]
  · by_cases h2 : d.2 = r
    · simp [h1, h2]
    · simp [h1, h2]
theorem near_len {ds : List Ed} {r : Str} : (nearOf ds r).length ≤ ds.length := List.length_filterMap_le _ _
section
variable {P : Program} {w : World} {K : PySem.W.Frag} {mg : Str → Option Value} {base : Heap}
def spNearBy (K : PySem.W.Frag) : Sp := fun vs H Q _ => ∃ (a b : Addr) (rs : List Str) (ts : List Addr) (ds : List Ed), vs = [.ref a, .ref b] ∧ SqL K H a (rs.map V.str) ∧ SqL K H b (ts.map V.ref) ∧ TupsAt H ts ds ∧ rs.Nodup ∧ rs.length < 1000 ∧ ds.length < 1000 ∧ (∀ d ∈ ds, d.1 ∈ rs ∧ d.2 ∈ rs ∧ d.1 ≠ d.2) ∧
  ∀ H' na, NearAt H' na rs ds → Same H H' → (∀ x, H' x = none → H x = none) → H na = none → Q (.ref na) H'
abbrev NNb : List Str := ["rooms", "doors", "near", "one", "other", "room"]
theorem scNb : FnScope NNb ["rooms", "doors"] (defScope s_rooms_by_doors) := ⟨rfl, rfl, rfl, by decide +kernel, rfl, by decide +kernel, by decide +kernel⟩
/-- the dict while it is filled: new lists, unlike ones -/
structure Fill (H0 H : Hp) (D : Addr) (rs : List Str) (nf : Str → Addr) (c : Str → List Str) : Prop where
  dict : H D = some (.dK (NM rs nf))
  lists : ∀ r ∈ rs, H (nf r) = some (.lst ((c r).map V.str))
  new : ∀ r ∈ rs, H0 (nf r) = none
  inj : ∀ r ∈ rs, ∀ q ∈ rs, nf r = nf q → r = q
  newD : H0 D = none
  same : Same H0 H
  gone : ∀ x, H x = none → H0 x = none
theorem Fill.put {H0 H : Hp} {D : Addr} {rs : List Str} {nf : Str → Addr} {c : Str → List Str} (F : Fill H0 H D rs nf c) {r : Str} (m : r ∈ rs) (xs : List Str) : Fill H0 (upd H (nf r) (.lst (xs.map V.str))) D rs nf (fun q => if q = r then xs else c q) := by
  have nD : D ≠ nf r := fun z => by
    have e := F.lists r m
    rw [← z, F.dict] at e
    cases e
  refine ⟨by rw [upd_ne nD]; exact F.dict, fun q hq => ?_, F.new, F.inj, F.newD, fun x o e => ?_, fun x z => F.gone x (none_upd z).2⟩
  · by_cases e : q = r
    · subst e
      rw [upd_same, if_pos rfl]
    · rw [upd_ne fun z => e (F.inj _ hq _ m z), if_neg e]
      exact F.lists q hq
  · rw [upd_ne (ne_of_none e (F.new r m))]
    exact F.same x o e
theorem ok_nearby {f : Addr} {fd : FuncData} (F : Fun K "rooms_by_doors" "rooms_by_doors" s_rooms_by_doors f fd) : FnOk P w K mg base CX0 1 f fd ["rooms", "doors"] (spNearBy K) := by
  refine F.ok scNb (fun vs H Q E h => ?_) (fun cdv A outer s H vs Q E hr h => ?_)
  · obtain ⟨a, b, rs, ts, ds, rfl, _⟩ := h
    rfl
  · obtain ⟨a, b, rs, ts, ds, rfl, ha, hb, ht, nd, hl, hld, ends, k⟩ := h
    have hu := Nat.lt_of_le_of_lt (Nat.add_le_add_left (show 1 ≤ 64 by decide) _) hr.units
    refine ⟨_, pss_cons (ps_setDc (i := 2) (tk := tVar 5) (own := [("room", 5)]) (g := gName 5) (tt := tYes) rfl scNb.nd rfl rfl (sw_dict rfl rfl rfl (by decide +kernel)) (pi_list (pv 0)) (blkOk_by (N := NNb) (sc := defScope s_rooms_by_doors) (by decide +kernel))
        (fun _ _ _ _ _ => pg_name (i := 5) scNb.nd rfl (Or.inl rfl)) (fun _ _ _ _ _ => pts_nil) (fun _ _ _ _ _ => pv 5) (fun _ _ _ _ _ => pe_lst pa_nil))
      (pss_cons (ps_for PassesOwn.never rfl (pi_list (pv 1)) (pg_tup rfl (pgs_cons (pg_name (i := 3) scNb.nd rfl (Or.inl rfl)) (pgs_cons (pg_name (i := 4) scNb.nd rfl (Or.inl rfl)) pgs_nil)))
        (pss_cons (ps_expr (pe_bm PySem.F.plainAttrs_list PySem.F.slot_list_append PySem.F.type_list_append mt_append (pe_dget hu (pv 2) (pv 3) (fun _ _ => rfl)) (pa_cons (pv 4) pa_nil) (by rfl) (by rfl)))
        (pss_one (ps_expr (pe_bm PySem.F.plainAttrs_list PySem.F.slot_list_append PySem.F.type_list_append mt_append (pe_dget hu (pv 2) (pv 4) (fun _ _ => rfl)) (pa_cons (pv 3) pa_nil) (by rfl) (by rfl))))))
      (pss_one (ps_ret (pv 2)))), ?_⟩
    refine ⟨_, rfl, a, rfl, ⟨_, ha⟩, fun D hD => ?_⟩
    refine dc_it (walk_list (xs := rs.map V.str)) (fun j H' => ∃ nf, Fill H H' D (rs.take j) nf fun _ => []) ?_ (fun j H' _ ⟨nf, g⟩ => g.same.seq ha) ?_ ?_
    · exact ⟨fun _ => 0, upd_same, fun r h => (by cases h), fun r h => (by cases h), fun r h => (by cases h), hD, same_upd hD, fun x z => (none_upd z).2⟩
    · rintro j v H' H'' hj ⟨nf, g⟩ ⟨rfl, hv⟩
      have hj2 : j < rs.length := by simpa using hj
      obtain rfl : V.str rs[j] = v := by
        rw [List.getElem?_map, List.getElem?_eq_getElem hj2] at hv
        exact Option.some.inj hv
      have nm := take_not nd hj2
      refine ⟨rfl, _, rfl, by show 0 ≤ sizeLine; decide, fun p hp => ?_⟩
      have nDp : D ≠ p := ne_of_none g.dict hp
      refine ⟨_, Sum.inr rs[j], rfl, by rw [upd_ne nDp]; exact g.dict, ?_, putA nf rs[j] p, ?_⟩
      · rw [nm_len, List.length_take]
        exact Nat.lt_of_le_of_lt (Nat.min_le_left _ _) (Nat.lt_trans (Nat.lt_trans hj2 hl) (by decide))
      · have tk : rs.take (j + 1) = rs.take j ++ [rs[j]] := (List.take_append_getElem hj2).symm
        have oldp : ∀ r ∈ rs.take j, nf r ≠ p := fun r hr z => by
          have e := g.lists r hr
          rw [z, hp] at e
          cases e
        have ne : ∀ r ∈ rs.take j, r ≠ rs[j] := fun r hr z => nm (z ▸ hr)
        have split : ∀ r ∈ rs.take (j + 1), r ∈ rs.take j ∨ r = rs[j] := fun r hr => by
          rw [tk] at hr
          rcases List.mem_append.mp hr with h | h
          · exact .inl h
          · exact .inr (List.mem_singleton.mp h)
        refine ⟨?_, fun r hr => ?_, fun r hr => ?_, fun r hr q hq z => ?_, hD, fun x o e => ?_, fun x z => g.gone x (none_upd (none_upd z).2).2⟩
        · rw [upd_same, nm_new nm, tk]
        · rcases split r hr with h | rfl
          · have nd2 : nf r ≠ D := fun z => by
              have e := g.lists r h
              rw [z, g.dict] at e
              cases e
            rw [putA_ne (ne r h), upd_ne nd2, upd_ne (oldp r h)]
            exact g.lists r h
          · rw [putA_same, upd_ne nDp.symm, upd_same]
            rfl
        · rcases split r hr with h | rfl
          · rw [putA_ne (ne r h)]
            exact g.new r h
          · rw [putA_same]
            exact g.gone p hp
        · rcases split r hr with h | rfl
          · rcases split q hq with h2 | rfl
            · rw [putA_ne (ne r h), putA_ne (ne q h2)] at z
              exact g.inj r h q h2 z
            · rw [putA_ne (ne r h), putA_same] at z
              exact absurd z (oldp r h)
          · rcases split q hq with h2 | rfl
            · rw [putA_same, putA_ne (ne q h2)] at z
              exact absurd z.symm (oldp q h2)
            · rfl
        · rw [upd_ne (ne_of_none e hD), upd_ne (ne_of_none (g.same x o e) hp)]
          exact g.same x o e
    · rintro H2 ⟨nf, g⟩
      rw [List.length_map, List.take_length] at g
      refine ⟨_, rfl, b, rfl, ⟨_, g.same.seq hb⟩, ?_⟩
      refine for_it (walk_list (xs := ts.map V.ref)) (fun i σ' H' => ∃ (v3 v4 v5 : Option V), σ' = [some (.ref a), some (.ref b), some (.ref D), v3, v4, v5] ∧ Fill H H' D rs nf fun r => nearOf (ds.take i) r) ?_ ?_ ?_ ?_
      · exact ⟨_, _, _, rfl, g⟩
      · rintro i σ' H' _ ⟨v3, v4, v5, rfl, g⟩
        exact g.same.seq hb
      · rintro i v σ' H' H'' hi ⟨v3, v4, v5, rfl, g⟩ ⟨rfl, hv⟩
        rw [List.getElem?_map] at hv
        obtain ⟨t, et, rfl⟩ := Option.map_eq_some_iff.mp hv
        obtain ⟨e, ee, te⟩ := paired_at ht et
        obtain ⟨m1, m2, ne⟩ := ends e (List.mem_of_getElem? ee)
        have tk : ds.take (i + 1) = ds.take i ++ [e] := by
          rw [List.take_add_one, ee]
          rfl
        have ln : ∀ r, ((nearOf (ds.take i) r).map V.str).length < 1000 := fun r => by
          rw [List.length_map]
          have z := near_len (ds := ds.take i) (r := r)
          rw [List.length_take] at z
          omega
        have t1 := g.same _ _ te
        have g1 := DGet.k (k := Sum.inr e.1) g.dict
        rw [nm_get m1] at g1
        have l1 := g.lists _ m1
        have F1 := g.put m1 (nearOf (ds.take i) e.1 ++ [e.2])
        rw [List.map_append] at F1
        have g2 := DGet.k (k := Sum.inr e.2) F1.dict
        rw [nm_get m2] at g2
        have l2 := F1.lists _ m2
        rw [if_neg ne.symm] at l2
        have F2 := F1.put m2 (nearOf (ds.take i) e.2 ++ [e.1])
        rw [List.map_append] at F2
        have ec : (fun q => if q = e.2 then nearOf (ds.take i) e.2 ++ [e.1] else if q = e.1 then nearOf (ds.take i) e.1 ++ [e.2] else nearOf (ds.take i) q) = fun r => nearOf (ds.take (i + 1)) r := by
          funext q
          rw [tk, near_snoc]
          by_cases q2 : q = e.2
          · subst q2
            rw [if_pos rfl, if_neg ne, if_pos rfl]
          · rw [if_neg q2]
            by_cases q1 : q = e.1
            · subst q1
              rw [if_pos rfl, if_pos rfl]
            · rw [if_neg q1, if_neg fun z => q1 z.symm, if_neg fun z => q2 z.symm, List.append_nil]
        rw [ec] at F2
        refine ⟨t, _, rfl, SqT.of t1, rfl, _, _, rfl, _, _, rfl, rfl, ?_⟩
        refine ⟨_, rfl, _, rfl, D, _, rfl, g1, .inl ⟨rfl, _, SqL.of l1⟩, _, rfl, nf e.1, _, .str e.2, rfl, rfl, l1, Nat.lt_trans (ln _) (by decide), ?_⟩
        refine ⟨_, rfl, _, rfl, D, _, rfl, g2, .inl ⟨rfl, _, SqL.of l2⟩, _, rfl, nf e.2, _, .str e.1, rfl, rfl, l2, Nat.lt_trans (ln _) (by decide), ?_⟩
        exact ⟨_, _, _, rfl, F2⟩
      · rintro σ' H' ⟨v3, v4, v5, rfl, g⟩
        have el : ds.take (ts.map V.ref).length = ds := by
          rw [List.length_map, Paired.length ht]
          exact List.take_length
        rw [el] at g
        exact ⟨_, rfl, k H' D ⟨nf, g.dict, g.lists⟩ g.same g.gone g.newD⟩
end
end Lamp
set_option maxHeartbeats 8000000
namespace Lamp
open PySem PySem.Spec PyProof.Rows L2
/-! ### reach -/
theorem near_mem {ds : List Ed} {r o : Str} : o ∈ nearOf ds r ↔ ∃ d ∈ ds, (d.1 = r ∧ o = d.2) ∨ (d.1 ≠ r ∧ d.2 = r ∧ o = d.1) := by
  unfold nearOf
  rw [List.mem_filterMap]
  constructor
  · rintro ⟨d, hd, h⟩
    refine ⟨d, hd, ?_⟩
    by_cases h1 : d.1 = r
    · rw [if_pos h1] at h
      exact .inl ⟨h1, (Option.some.inj h).symm⟩
    · rw [if_neg h1] at h
      by_cases h2 : d.2 = r
      · rw [if_pos h2] at h
        exact .inr ⟨h1, h2, (Option.some.inj h).symm⟩
      · rw [if_neg h2] at h
        cases h
  · rintro ⟨d, hd, ⟨h1, h2⟩ | ⟨h1, h2, h3⟩⟩
    · exact ⟨d, hd, by rw [if_pos h1, h2]⟩
    · exact ⟨d, hd, by rw [if_neg h1, if_pos h2, h3]⟩
theorem closed_conn {ds : List Ed} {fs : List Str} (c : ∀ r ∈ fs, ∀ o ∈ nearOf ds r, o ∈ fs) {a b : Str} (h : Conn ds a b) (ha : a ∈ fs) : b ∈ fs := by
  induction h with
  | refl => exact ha
  | @fwd b c' _ m ih => exact c _ ih _ (near_mem.mpr ⟨(b, c'), m, .inl ⟨rfl, rfl⟩⟩)
  | @bwd b c' _ m ih =>
    by_cases e : c' = b
    · rw [e]
      exact ih
    · exact c _ ih _ (near_mem.mpr ⟨(c', b), m, .inr ⟨e, rfl, rfl⟩⟩)
theorem nodup_le : ∀ {l m : List Str}, l.Nodup → (∀ x ∈ l, x ∈ m) → l.length ≤ m.length
  | [], _, _, _ => Nat.zero_le _
  | x :: l, m, nd, h => by
    obtain ⟨h1, h2⟩ := List.nodup_cons.mp nd
    have hx := h x List.mem_cons_self
    have p := List.perm_cons_erase hx
    have ih := nodup_le (l := l) (m := m.erase x) h2 fun y hy => by
      have z := p.mem_iff.mp (h y (List.mem_cons_of_mem _ hy))
      rcases List.mem_cons.mp z with e | z
      · exact absurd (e ▸ hy) h1
      · exact z
    rw [p.length_eq]
    exact Nat.succ_le_succ ih
/-- the rooms of a part, those found, those waiting, as they stand -/
structure RInv (H0 H : Hp) (al fo wa : Addr) (rs fs ws : List Str) : Prop where
  a : H al = some (.dK (SM rs))
  f : H fo = some (.dK (SM fs))
  w : H wa = some (.lst (ws.map V.str))
  newA : H0 al = none
  newF : H0 fo = none
  newW : H0 wa = none
  af : fo ≠ al
  same : Same H0 H
  gone : ∀ x, H x = none → H0 x = none
theorem RInv.wa {H0 H : Hp} {al fo wa : Addr} {rs fs ws : List Str} (R : RInv H0 H al fo wa rs fs ws) : wa ≠ al ∧ wa ≠ fo := by
  constructor
  · intro z
    have e := R.a
    rw [← z, R.w] at e
    cases e
  · intro z
    have e := R.f
    rw [← z, R.w] at e
    cases e
theorem RInv.setW {H0 H : Hp} {al fo wa : Addr} {rs fs ws vs : List Str} (R : RInv H0 H al fo wa rs fs ws) : RInv H0 (upd H wa (.lst (vs.map V.str))) al fo wa rs fs vs := by
  obtain ⟨n1, n2⟩ := R.wa
  refine ⟨by rw [upd_ne n1.symm]; exact R.a, by rw [upd_ne n2.symm]; exact R.f, upd_same, R.newA, R.newF, R.newW, R.af, fun x o e => ?_, fun x z => R.gone x (none_upd z).2⟩
  rw [upd_ne (ne_of_none e R.newW)]
  exact R.same x o e
theorem RInv.setF {H0 H : Hp} {al fo wa : Addr} {rs fs ws gs : List Str} (R : RInv H0 H al fo wa rs fs ws) : RInv H0 (upd H fo (.dK (SM gs))) al fo wa rs gs ws := by
  obtain ⟨n1, n2⟩ := R.wa
  refine ⟨by rw [upd_ne R.af.symm]; exact R.a, upd_same, by rw [upd_ne n2]; exact R.w, R.newA, R.newF, R.newW, R.af, fun x o e => ?_, fun x z => R.gone x (none_upd z).2⟩
  rw [upd_ne (ne_of_none e R.newF)]
  exact R.same x o e
theorem RInv.ext {H0 H H' : Hp} {al fo wa : Addr} {rs fs ws : List Str} (R : RInv H0 H al fo wa rs fs ws) (s : Same H H') (g : ∀ x, H' x = none → H x = none) : RInv H0 H' al fo wa rs fs ws :=
  ⟨s _ _ R.a, s _ _ R.f, s _ _ R.w, R.newA, R.newF, R.newW, R.af, R.same.trans s, fun x z => R.gone x (g x z)⟩
structure TxtQ (mg : Str → Option Value) : Prop where
  srt : mg "sorted" = none
section
variable {P : Program} {w : World} {K : PySem.W.Frag} {mg : Str → Option Value} {base : Heap} {C : Addr}
def spReach (K : PySem.W.Frag) (C : Addr) : Sp := fun vs H Q _ => ∃ (h ia : Addr) (s0 : Str) (rs : List Str) (ds : List Ed), vs = [.ref h, .str s0, .ref ia] ∧ HouseAt H C h rs ds ∧ SqL K H ia (rs.map V.str) ∧ rs.Nodup ∧ rs.length < 60 ∧ s0 ∈ rs ∧ (∀ d ∈ ds, d.1 ∈ rs ∧ d.2 ∈ rs ∧ d.1 ≠ d.2) ∧ ds.length < 1000 ∧
  ∀ H' p fs ys, fs.Nodup → (∀ r ∈ fs, r ∈ rs) → (∀ r, Conn ds s0 r → r ∈ fs) → ys.Perm fs → sortedS ys = true → H' p = some (.lst (ys.map V.str)) → Same H H' → (∀ x, H' x = none → H x = none) → H p = none → Q (.ref p) H'
abbrev NRe : List Str := ["house", "start", "inside", "allowed", "found", "waiting", "other", "room"]
theorem scRe : FnScope NRe ["house", "start", "inside"] (defScope s_reach) := ⟨rfl, rfl, rfl, by decide +kernel, rfl, by decide +kernel, by decide +kernel⟩
theorem ok_reach {f : Addr} {fd : FuncData} (F : Fun K "reach" "reach" s_reach f fd) (T : TxtQ mg) (M : HasH P w K mg base C) : FnOk P w K mg base CX0 2 f fd ["house", "start", "inside"] (spReach K C) := by
  obtain ⟨fn, dn, mn, Gn, bn⟩ := M.near
  refine F.ok scRe (fun vs H Q E h => ?_) (fun cdv A outer s H vs Q E hr h => ?_)
  · obtain ⟨h, ia, s0, rs, ds, rfl, _⟩ := h
    rfl
  · obtain ⟨h, ia, s0, rs, ds, rfl, hh, hia, nd, hl, m0, ends, hld, k⟩ := h
    have hu := Nat.lt_of_le_of_lt (Nat.add_le_add_left (show 1 ≤ 64 by decide) _) hr.units
    refine ⟨_, pss_cons (ps_setDc (i := 3) (tk := tVar 7) (tv := tC (.bl true)) (own := [("room", 7)]) (g := gName 7) (tt := tYes) rfl scRe.nd rfl rfl (sw_dict rfl rfl rfl (by decide +kernel)) (pi_list (pv 2)) (blkOk_by (N := NRe) (sc := defScope s_reach) (by decide +kernel))
        (fun _ _ _ _ _ => pg_name (i := 7) scRe.nd rfl (Or.inl rfl)) (fun _ _ _ _ _ => pts_nil) (fun _ _ _ _ _ => pv 7) (fun _ _ _ _ _ => pe_bl))
      (pss_cons (ps_set (i := 4) scRe.nd rfl (Or.inl rfl) (pe_disp (pps_cons (pv 1) pe_bl pps_nil) (by rfl) (by rfl) (by simp) (by decide)))
      (pss_cons (ps_set (i := 5) scRe.nd rfl (Or.inl rfl) (pe_lst (pa_cons (pv 1) pa_nil)))
      (pss_cons (ps_while PassesOwn.never (pt_truth (pv 5) (fun _ => rfl))
        (pss_one (ps_for PassesOwn.never rfl (pi_list (pe_meth (pv 0) M.cls.cls mn Gn hr bn .nil pass0 (pa_cons (pe_bm0 PySem.F.plainAttrs_list PySem.F.slot_list_pop PySem.F.type_list_pop mt_pop (pv 5)) pa_nil))) (pg_name (i := 6) scRe.nd rfl (Or.inl rfl))
          (pss_one (ps_if (PW.pt (pw_and (pt_cmp (pc_din hu (pv 6) (pv 3)) (by rfl)) (pw_and1 (pt_cmp (pc_dnotin hu (pv 6) (pv 4)) (by rfl)))))
            (pss_cons (ps_dput hu (pv 4) (pv 6) pe_bl (by rfl)) (pss_one (ps_expr (pe_bm PySem.F.plainAttrs_list PySem.F.slot_list_append PySem.F.type_list_append mt_append (pv 5) (pa_cons (pv 6) pa_nil) (by rfl) (by rfl)))))
            pss_nil)))))
      (pss_one (ps_ret (pe_callB (call_sortedD rfl) (by rfl) T.srt PyProof.Rows.Boot.sorted (pa_cons (pv 4) pa_nil))))))), ?_⟩
    refine ⟨_, rfl, ia, rfl, ⟨_, hia⟩, fun A1 hA1 => ?_⟩
    refine dc_it (walk_list (xs := rs.map V.str)) (fun j H' => H' A1 = some (.dK (SM (rs.take j))) ∧ Same H H' ∧ ∀ x, H' x = none → H x = none) ⟨upd_same, same_upd hA1, fun x z => (none_upd z).2⟩ (fun j H' _ g => g.2.1.seq hia) ?_ ?_
    · rintro j v H' H'' hj ⟨g1, g2, g3⟩ ⟨rfl, hv⟩
      have hj2 : j < rs.length := by simpa using hj
      obtain rfl : V.str rs[j] = v := by
        rw [List.getElem?_map, List.getElem?_eq_getElem hj2] at hv
        exact Option.some.inj hv
      refine ⟨rfl, _, rfl, _, Sum.inr rs[j], rfl, g1, ?_, ?_, ?_, fun x z => g3 x (none_upd z).2⟩
      · rw [sm_len, List.length_take]
        exact Nat.lt_of_le_of_lt (Nat.min_le_left _ _) (Nat.lt_trans (Nat.lt_trans hj2 hl) (by decide))
      · rw [upd_same, sm_new (take_not nd hj2), List.take_append_getElem hj2]
      · intro x o e
        rw [upd_ne (ne_of_none e hA1)]
        exact g2 x o e
    · rintro H2 ⟨g1, g2, g3⟩
      rw [List.length_map, List.take_length] at g1
      refine fun F1 hF1 => ⟨_, rfl, upd_same, [(Sum.inr s0, .bl true)], rfl, (by show 1 ≤ 15; decide), ?_⟩
      rw [show mergeK ([] : List (Key × V)) [(Sum.inr s0, V.bl true)] = SM [s0] from rfl]
      refine ⟨_, rfl, by show 1 ≤ sizeLine; decide, fun W1 hW1 => ?_⟩
      have fa : F1 ≠ A1 := (ne_of_none g1 hF1).symm
      have nW2 := (none_upd (none_upd hW1).2).2
      have R0 : RInv H (upd (upd (upd H2 F1 (.dK [])) F1 (.dK (SM [s0]))) W1 (.lst ([s0].map V.str))) A1 F1 W1 rs [s0] [s0] := by
        have wf : F1 ≠ W1 := fun z => (none_upd hW1).1 z.symm
        have wa : A1 ≠ W1 := ne_of_none g1 nW2
        refine ⟨by rw [upd_ne wa, upd_ne fa.symm, upd_ne fa.symm]; exact g1, by rw [upd_ne wf, upd_same], upd_same, hA1, g3 _ hF1, g3 _ nW2, fa, fun x o e => ?_, fun x z => g3 x (none_upd (none_upd (none_upd z).2).2).2⟩
        have e2 := g2 x o e
        rw [upd_ne (ne_of_none e2 nW2), upd_ne (ne_of_none e2 hF1), upd_ne (ne_of_none e2 hF1)]
        exact e2
      have eσ : ((List.set (L2.start NRe [V.ref h, V.str s0, V.ref ia]) 3 (some (V.ref A1))).set 4 (some (V.ref F1))).set 5 (some (V.ref W1)) = [some (.ref h), some (.str s0), some (.ref ia), some (.ref A1), some (.ref F1), some (.ref W1), none, none] := rfl
      dsimp only [gName]
      rw [eσ]
      refine while_ex (fun _ _ => False) (fun _ _ z => z.elim) (fun _ => ?_)
      refine while_by (fun σ' H' => ∃ (fs ws : List Str) (v6 v7 : Option V), σ' = [some (.ref h), some (.str s0), some (.ref ia), some (.ref A1), some (.ref F1), some (.ref W1), v6, v7] ∧ RInv H H' A1 F1 W1 rs fs ws ∧ fs.Nodup ∧ (∀ r ∈ fs, r ∈ rs) ∧ (∀ r ∈ ws, r ∈ fs) ∧ s0 ∈ fs ∧ ws.length ≤ fs.length ∧ (∀ r ∈ fs, r ∉ ws → ∀ o ∈ nearOf ds r, o ∈ fs))
        (fun _ H' => (match H' F1 with
          | some (.dK kvs) => 2 * (rs.length - kvs.length)
          | _ => 0) + (match H' W1 with
          | some (.lst xs) => xs.length
          | _ => 0)) ⟨[s0], [s0], _, _, rfl, R0, List.nodup_cons.mpr ⟨by simp, List.nodup_nil⟩, fun r hr => by rw [List.mem_singleton.mp hr]; exact m0, fun r hr => hr, List.mem_singleton.mpr rfl, Nat.le_refl _, fun r hr hn => absurd hr hn⟩ ?_ ?_
      · rintro σ' H' ⟨fs, ws, v6, v7, rfl, R, fnd, fsub, wsub, fs0, wle, cl⟩
        refine ⟨_, rfl, _, .inl ⟨_, SqL.of R.w, rfl⟩, ?_⟩
        cases we : ws.reverse with
        | nil =>
          obtain rfl : ws = [] := List.reverse_eq_nil_iff.mp we
          refine iteF ?_
          refine ⟨_, rfl, F1, _, fs, rfl, .inl R.f, ?_, ?_, fun ys p hp hs hn => ?_⟩
          · unfold SM
            rw [List.map_map]
            rfl
          · exact Nat.lt_of_le_of_lt (nodup_le fnd fsub) (by omega)
          · refine k _ p fs ys fnd fsub (fun r c => closed_conn (fun q hq o ho => cl q hq (by simp) o ho) c fs0) hp hs upd_same (R.same.trans (same_upd hn)) (fun x z => R.gone x (none_upd z).2) (R.gone p hn)
        | cons x wr =>
          obtain ⟨w0, rfl⟩ : ∃ w0, ws = w0 ++ [x] := ⟨wr.reverse, by rw [← List.reverse_reverse ws, we, List.reverse_cons]⟩
          refine iteT2 (by simp) ?_
          have hh' := hh.same R.same
          have hat := hh'
          obtain ⟨dx, ra, da, na, tsd, i1, i2, i3, i4, nf, i5, i6⟩ := hat.at_
          have mx : x ∈ rs := fsub x (wsub x (List.mem_append_right _ (List.mem_singleton.mpr rfl)))
          have R1 : RInv H (upd H' W1 (.lst (w0.map V.str))) A1 F1 W1 rs fs w0 := R.setW
          have ew : ((w0 ++ [x]).map V.str).dropLast = w0.map V.str := by
            rw [List.map_append]
            exact List.dropLast_concat
          have lw : ((w0 ++ [x]).map V.str)[((w0 ++ [x]).map V.str).length - 1]? = some (.str x) := by
            simp
          refine ⟨_, rfl, h, dx, _, rfl, i1, by rfl, _, rfl, .inl ⟨rfl, _, SqL.of R.w⟩, W1, _, .str x, rfl, rfl, R.w, lw, ?_⟩
          rw [ew]
          refine ⟨h, x, rs, ds, rfl, hh.same R1.same, mx, fun H4 p s4 o4 n4 e4 => ?_⟩
          have R4 := R1.ext s4 o4
          have pF : p ≠ F1 := (ne_of_none R1.f n4).symm
          have pW : p ≠ W1 := (ne_of_none R1.w n4).symm
          have nx : x ∉ fs → False := fun z => z (wsub x (List.mem_append_right _ (List.mem_singleton.mpr rfl)))
          refine ⟨p, rfl, ⟨_, SqL.of e4⟩, ?_⟩
          refine for_it (walk_list (xs := (nearOf ds x).map V.str)) (fun j σ'' H'' => ∃ (ad : List Str) (u6 u7 : Option V), σ'' = [some (.ref h), some (.str s0), some (.ref ia), some (.ref A1), some (.ref F1), some (.ref W1), u6, u7] ∧ RInv H H'' A1 F1 W1 rs (fs ++ ad) (w0 ++ ad) ∧ (fs ++ ad).Nodup ∧ (∀ r ∈ fs ++ ad, r ∈ rs) ∧ (∀ o ∈ (nearOf ds x).take j, o ∈ fs ++ ad) ∧ H'' p = some (.lst ((nearOf ds x).map V.str))) ?_ ?_ ?_ ?_
          · exact ⟨[], _, _, rfl, by rw [List.append_nil, List.append_nil]; exact R4, by rw [List.append_nil]; exact fnd, by rw [List.append_nil]; exact fsub, fun o ho => by simp at ho, e4⟩
          · rintro j σ'' H'' _ ⟨ad, u6, u7, rfl, q1, q2, q3, q4, q5⟩
            exact SqL.of q5
          · rintro j v σ'' H'' H5 hj ⟨ad, u6, u7, rfl, q1, q2, q3, q4, q5⟩ ⟨rfl, hv⟩
            have hj2 : j < (nearOf ds x).length := by simpa using hj
            obtain rfl : V.str (nearOf ds x)[j] = v := by
              rw [List.getElem?_map, List.getElem?_eq_getElem hj2] at hv
              exact Option.some.inj hv
            generalize eo : (nearOf ds x)[j] = o
            have tk : (nearOf ds x).take (j + 1) = (nearOf ds x).take j ++ [o] := by
              rw [← eo]
              exact (List.take_append_getElem hj2).symm
            have mo : o ∈ rs := by
              obtain ⟨d, hd, z⟩ := near_mem.mp (eo ▸ List.getElem_mem hj2 : o ∈ nearOf ds x)
              obtain ⟨h1, h2, _⟩ := ends d hd
              rcases z with ⟨_, e⟩ | ⟨_, _, e⟩
              · exact e ▸ h2
              · exact e ▸ h1
            have lf : (fs ++ ad).length ≤ rs.length := nodup_le q2 q3
            refine ⟨_, rfl, _, rfl, A1, _, rfl, DGet.k (k := Sum.inr o) q1.a, _, rfl, iteT2 (sm_get.trans (decide_eq_true mo)) ⟨_, rfl, _, rfl, F1, _, rfl, DGet.k (k := Sum.inr o) q1.f, _, rfl, ?_⟩⟩
            rw [sm_get]
            by_cases m : o ∈ fs ++ ad
            · refine iteF2 (by rw [decide_eq_true m]; rfl) ⟨ad, _, _, rfl, q1, q2, q3, fun z hz => ?_, q5⟩
              rw [tk] at hz
              rcases List.mem_append.mp hz with hz | hz
              · exact q4 z hz
              · rw [List.mem_singleton.mp hz]
                exact m
            · refine iteT2 (by rw [decide_eq_false m]; rfl) ?_
              refine ⟨_, rfl, _, rfl, F1, _, rfl, DPut.k (k := Sum.inr o) q1.f (by rw [sm_len]; exact Nat.lt_of_le_of_lt lf (Nat.lt_trans hl (by decide))), ?_⟩
              rw [sm_new m, List.append_assoc]
              have q6 : RInv H (upd H5 F1 (.dK (SM (fs ++ (ad ++ [o]))))) A1 F1 W1 rs (fs ++ (ad ++ [o])) (w0 ++ ad) := q1.setF
              have q7 : RInv H (upd (upd H5 F1 (.dK (SM (fs ++ (ad ++ [o]))))) W1 (.lst ((w0 ++ (ad ++ [o])).map V.str))) A1 F1 W1 rs (fs ++ (ad ++ [o])) (w0 ++ (ad ++ [o])) := q6.setW
              have em : (w0 ++ (ad ++ [o])).map V.str = (w0 ++ ad).map V.str ++ [V.str o] := by simp
              rw [em] at q7
              refine ⟨_, rfl, .inl ⟨rfl, _, SqL.of q6.w⟩, _, rfl, W1, _, .str o, rfl, rfl, q6.w, ?_, ?_⟩
              · have l1 : ((w0 ++ ad).map V.str).length < 1000 := by
                  rw [List.length_map, List.length_append]
                  rw [List.length_append] at lf wle
                  omega
                exact Nat.lt_trans l1 (by decide)
              · refine ⟨ad ++ [o], _, _, rfl, q7, ?_, fun r hr => ?_, fun z hz => ?_, ?_⟩
                · rw [← List.append_assoc]
                  exact List.nodup_append.mpr ⟨q2, List.nodup_cons.mpr ⟨by simp, List.nodup_nil⟩, fun y hy z hz e => m (by rw [← List.mem_singleton.mp hz, ← e]; exact hy)⟩
                · rw [← List.append_assoc] at hr
                  rcases List.mem_append.mp hr with hr | hr
                  · exact q3 r hr
                  · rw [List.mem_singleton.mp hr]
                    exact mo
                · rw [← List.append_assoc]
                  rw [tk] at hz
                  rcases List.mem_append.mp hz with hz | hz
                  · exact List.mem_append_left _ (q4 z hz)
                  · exact List.mem_append_right _ hz
                · rw [upd_ne pW, upd_ne pF]
                  exact q5
          · rintro σ'' H'' ⟨ad, u6, u7, rfl, q1, q2, q3, q4, q5⟩
            have lf : (fs ++ ad).length ≤ rs.length := nodup_le q2 q3
            rw [List.length_append] at lf wle
            rw [List.length_map, List.take_length] at q4
            refine ⟨⟨fs ++ ad, w0 ++ ad, _, _, rfl, q1, q2, q3, fun r hr => ?_, List.mem_append_left _ fs0, ?_, fun r hr hn o ho => ?_⟩, ?_⟩
            · rcases List.mem_append.mp hr with hr | hr
              · exact List.mem_append_left _ (wsub r (List.mem_append_left _ hr))
              · exact List.mem_append_right _ hr
            · rw [List.length_append, List.length_append]
              simp only [List.length_cons, List.length_nil] at wle
              omega
            · rcases List.mem_append.mp hr with hr | hr
              · by_cases e : r = x
                · exact q4 o (e ▸ ho)
                · refine List.mem_append_left _ (cl r hr (fun z => ?_) o ho)
                  rcases List.mem_append.mp z with z | z
                  · exact hn (List.mem_append_left _ z)
                  · exact e (List.mem_singleton.mp z)
              · exact absurd (List.mem_append_right _ hr) hn
            · show (match H'' F1 with
                | some (.dK kvs) => 2 * (rs.length - kvs.length)
                | _ => 0) + (match H'' W1 with
                | some (.lst xs) => xs.length
                | _ => 0) < (match H' F1 with
                | some (.dK kvs) => 2 * (rs.length - kvs.length)
                | _ => 0) + (match H' W1 with
                | some (.lst xs) => xs.length
                | _ => 0)
              rw [q1.f, q1.w, R.f, R.w]
              show 2 * (rs.length - (SM (fs ++ ad)).length) + ((w0 ++ ad).map V.str).length < 2 * (rs.length - (SM fs).length) + ((w0 ++ [x]).map V.str).length
              rw [sm_len, sm_len, List.length_map, List.length_map, List.length_append, List.length_append, List.length_append]
              simp only [List.length_cons, List.length_nil]
              omega
      · rintro σ' H' Q1 Q2 hq ⟨y, e1, b, e2, q⟩
        exact ⟨y, e1, b, e2, hq _ _ q⟩
end
end Lamp
set_option maxHeartbeats 4000000
namespace Lamp
open PySem PySem.Spec PyProof.Rows L2
theorem vals_strs {xs : List Str} {us : List Value} (r : Vals (xs.map V.str) us) {i : Nat} {v : Value} (h : us[i]? = some v) : ∃ x t, xs[i]? = some x ∧ v = .str x t := by
  have hi := (List.getElem?_eq_some_iff.mp h).1
  have hl : xs.length = us.length := by
    have z := r.length
    rw [List.length_map] at z
    exact z
  obtain ⟨x, hx⟩ : ∃ x, xs[i]? = some x := ⟨xs[i]'(by omega), List.getElem?_eq_getElem _⟩
  obtain ⟨u, hu, ru⟩ := Vals.get (i := i) (x := .str x) r (by rw [List.getElem?_map, hx]; rfl)
  rw [h] at hu
  cases hu
  obtain ⟨t, rfl⟩ := ru
  exact ⟨x, t, hx, rfl⟩
/-- min(x) of a list of texts: one of them -/
def rMinS (K : PySem.W.Frag) : List V → Hp → VK → Prop := fun vs H Q => ∃ (a : Addr) (xs : List Str), vs = [.ref a] ∧ SqL K H a (xs.map V.str) ∧ xs ≠ [] ∧ ∀ m ∈ xs, Q (.str m) H
theorem argBest_le (bt : Nat → Nat → Bool) : ∀ k, argBest bt k ≤ k
  | 0 => Nat.le_refl _
  | k + 1 => by
    show (if bt (k + 1) (argBest bt k) then k + 1 else argBest bt k) ≤ k + 1
    have ih := argBest_le bt k
    split
    · exact Nat.le_refl _
    · omega
theorem cr_minS {X : Cx} (hc : X.calm = true) : CallR X (.builtin "min") (rMinS X.K) := by
  intro pins s σ H vs us Q I r h
  obtain ⟨a, xs, rfl, hs, hne, q⟩ := h
  obtain ⟨its, rv, hl, _⟩ := I.list hs
  rw [Vals.ref1 r]
  have hlen : its.length = xs.length := by
    have z := rv.length
    rw [List.length_map] at z
    exact z.symm
  have hlt : a < s.heap.objs.size := by
    obtain ⟨_, e, _⟩ := hl.isList
    exact Heap.lt_size e
  refine call_min_walk (iter_any hl.isList fun s₂ e2 st hn => ?_)
  subst e2
  have pos : 0 < its.toArray.size := by
    rw [List.size_toArray, hlen]
    exact List.length_pos_iff.mpr hne
  refine ⟨_, _, _, _, _, _, fun i j => decide ((xs.getD i Str.empty).cps.toList < (xs.getD j Str.empty).cps.toList), rfl, Walks.list (A := X.A.in1) (I.ok.hd hc) _ a hn its.toArray, st, fun b hb => ?_, pos, fun i j vi vj s' Q' E' hi hj hq => ?_, fun v h' tk hP hk => ?_⟩
  · have sz : (s.heap.push { cls := .type "list_iterator", data := .fields #[.ref a, .int 0 0] }).objs.size = s.heap.objs.size + 1 := by
      show (s.heap.objs.push _).size = _
      rw [Array.size_push]
    show b < (s.heap.push { cls := .type "list_iterator", data := .fields #[.ref a, .int 0 0] }).objs.size
    rw [sz]
    rcases List.mem_cons.mp hb with e | hb
    · rw [e]
      exact Nat.lt_succ_self _
    · rw [List.mem_singleton.mp hb]
      exact Nat.lt_succ_of_lt hlt
  · obtain ⟨x, t, hx, rfl⟩ := vals_strs rv (i := i) (v := vi) (by simpa using hi)
    obtain ⟨y, u, hy, rfl⟩ := vals_strs rv (i := j) (v := vj) (by simpa using hj)
    replace hq : Q' (.bool (decide ((xs.getD i Str.empty).cps.toList < (xs.getD j Str.empty).cps.toList))) s' := hq
    rw [List.getD_eq_getElem?_getD, List.getD_eq_getElem?_getD, hx, hy] at hq
    exact PyProof.Rows.lt_str hq
  · obtain ⟨x, t, hx, rfl⟩ := vals_strs rv (v := v) (by simpa using hP)
    refine ⟨.str x, H, I.kept fun b o eo => hk b o (fun hmem => ?_) (Heap.get?_push_of_some _ eo), ⟨t, rfl⟩, q x (List.mem_of_getElem? hx)⟩
    rcases List.mem_cons.mp hmem with e1 | hmem
    · exact absurd (e1 ▸ Heap.lt_size eo) (Nat.lt_irrefl _)
    · cases hmem
end Lamp
set_option maxHeartbeats 4000000
namespace Lamp
open PySem PySem.Spec PyProof.Rows L2
/-- min(x, default=d) of a list of nothing -/
def rMin0 (K : PySem.W.Frag) : List V → List V → Hp → VK → Prop := fun vs zs H Q => ∃ (a : Addr) (d : V), vs = [.ref a] ∧ zs = [d] ∧ SqL K H a [] ∧ Q d H
theorem cr_min0 {X : Cx} (hc : X.calm = true) (hu : X.A.units + 1 < cLine) : CallRK X (.builtin "min") ["default"] (rMin0 X.K) := by
  intro pins s σ H vs zs us ws Q I r rz h
  obtain ⟨a, d, rfl, rfl, hs, q⟩ := h
  obtain ⟨its, rv, hl, _⟩ := I.list hs
  have e0 : its = [] := List.eq_nil_of_length_eq_zero (by rw [← rv.length]; rfl)
  subst e0
  obtain ⟨u, rfl, ru⟩ := Vals.one rz
  rw [Vals.ref1 r]
  refine PySem.W.min_list_default (xs := []) (as := []) (I.ok.hd hc) hl.isList .nil ⟨fun x hx => (by cases hx), fun x hx => (by cases hx)⟩ (by show X.A.units + 1 + 0 < cLine; omega) (fun _ h' tk hk => ?_) fun y ys i v h' tk bs e => (by cases e)
  exact ⟨d, H, I.kept hk, ru, q⟩
structure TxtF (mg : Str → Option Value) : Prop where
  min : mg "min" = none
section
variable {P : Program} {w : World} {K : PySem.W.Frag} {mg : Str → Option Value} {base : Heap} {C : Addr}
/-! ### first_parted, where all hangs together -/
def spFirst (K : PySem.W.Frag) (C : Addr) : Sp := fun vs H Q _ => ∃ (h ia : Addr) (rs : List Str) (ds : List Ed), vs = [.ref h, .ref ia] ∧ HouseAt H C h rs ds ∧ SqL K H ia (rs.map V.str) ∧ rs ≠ [] ∧ rs.Nodup ∧ rs.length < 60 ∧ (∀ d ∈ ds, d.1 ∈ rs ∧ d.2 ∈ rs ∧ d.1 ≠ d.2) ∧ ds.length < 1000 ∧ (∀ a ∈ rs, ∀ b ∈ rs, Conn ds a b) ∧
  ∀ H', Same H H' → (∀ x, H' x = none → H x = none) → Q .non H'
abbrev NFp : List Str := ["house", "some", "joined", "room"]
theorem scFp : FnScope NFp ["house", "some"] (defScope s_first_parted) := ⟨rfl, rfl, rfl, by decide +kernel, rfl, by decide +kernel, by decide +kernel⟩
theorem ok_first {f : Addr} {fd : FuncData} (F : Fun K "first_parted" "first_parted" s_first_parted f fd) (T : TxtF mg) (RO : Stands P w K mg base 2 "reach" ["house", "start", "inside"] (spReach K C)) : FnOk P w K mg base CX0 3 f fd ["house", "some"] (spFirst K C) := by
  obtain ⟨fr, dr, Gr, mr, kr, br⟩ := RO
  refine F.ok scFp (fun vs H Q E h => ?_) (fun cdv A outer s H vs Q E hr h => ?_)
  · obtain ⟨h, ia, rs, ds, rfl, _⟩ := h
    rfl
  · obtain ⟨h, ia, rs, ds, rfl, hh, hia, ne, nd, hl, ends, hld, all, k⟩ := h
    have hu := Nat.lt_of_le_of_lt (Nat.add_le_add_left (show 1 ≤ 64 by decide) _) hr.units
    refine ⟨_, pss_cons (ps_set (i := 2) scFp.nd rfl (Or.inr rfl) (pe_call Gr hr (by rfl) mr kr br .nil pass0 (pa_cons (pv 0) (pa_cons (pe_callB (cr_minS rfl) (by rfl) T.min PyProof.Rows.Boot.min (pa_cons (pv 1) pa_nil)) (pa_cons (pv 1) pa_nil)))))
      (pss_one (ps_ret (pe_callBK (cr_min0 rfl hu) (by rfl) T.min PyProof.Rows.Boot.min (pa_cons
        (pe_lc (te := tVar 3) (own := [("room", 3)]) (g := gName 3) (tt := tTest (tOp (rIn K true) (tVar 3) (tVar 2))) rfl scFp.nd (pi_list (pv 1)) (blkOk_by (N := NFp) (sc := defScope s_first_parted) (by decide +kernel))
          (fun _ _ _ _ _ => pg_name (i := 3) scFp.nd rfl (Or.inl rfl)) (fun _ _ _ _ _ => by exact (pts_one (pt_cmpR op_notIn_seq (pv 3) (pv 2) (by rfl)))) (fun _ _ _ _ _ => pv 3)) pa_nil)
        (pk_cons pe_non pk_nil)))), ?_⟩
    refine ⟨_, rfl, _, rfl, ia, rs, rfl, hia, ne, fun m0 hm0 => ⟨_, rfl, h, ia, m0, rs, ds, rfl, hh, hia, nd, hl, hm0, ends, hld, fun H1 p fs ys fnd fsub fall hp hs hpp s1 o1 hn => ?_⟩⟩
    have ally : ∀ r ∈ rs, r ∈ ys := fun r hr => hp.mem_iff.mpr (fall r (all m0 hm0 r hr))
    refine ⟨_, rfl, ia, rfl, ⟨_, s1.seq hia⟩, fun D hD => ?_⟩
    have pD : p ≠ D := ne_of_none hpp hD
    refine lc_list (xs := rs.map V.str) (fun j H' => H' D = some (.lst []) ∧ H' p = some (.lst (ys.map V.str)) ∧ Same H H' ∧ ∀ x, H' x = none → H x = none) ⟨upd_same, by rw [upd_ne pD]; exact hpp, s1.trans (same_upd hD), fun x z => o1 x (none_upd z).2⟩ (fun j H' _ g => g.2.2.1.seq hia) ?_ ?_
    · rintro j v H' hv ⟨g1, g2, g3, g4⟩
      rw [List.getElem?_map] at hv
      obtain ⟨x, hx, rfl⟩ := Option.map_eq_some_iff.mp hv
      have mx := ally x (List.mem_of_getElem? hx)
      refine ⟨rfl, _, rfl, _, rfl, p, _, rfl, .inl (SqL.of g2), rfl, ?_, _, rfl, ?_⟩
      · exact List.all_eq_true.mpr fun y hy => by
          obtain ⟨z, _, rfl⟩ := List.mem_map.mp hy
          rfl
      · refine iteF2 ?_ ⟨g1, g2, g3, g4⟩
        have ei : inV (V.str x) (ys.map V.str) = true := List.any_eq_true.mpr ⟨.str x, List.mem_map.mpr ⟨x, mx, rfl⟩, by show (x == x) = true; exact beq_self_eq_true x⟩
        rw [if_pos rfl, ei]
        rfl
    · rintro H' ⟨g1, g2, g3, g4⟩
      exact ⟨D, _, rfl, rfl, SqL.of g1, k H' g3 g4⟩
end
end Lamp
set_option maxHeartbeats 8000000
namespace Lamp
open PySem PySem.Spec PyProof.Rows L2
/-! ### towards -/
/-- a dict from rooms to values -/
def TM (fs : List Str) (nv : Str → V) : List (Key × V) := fs.map fun r => ((Sum.inr r : Key), nv r)
theorem tm_len {fs : List Str} {nv : Str → V} : (TM fs nv).length = fs.length := List.length_map _
theorem tm_isSome {nv : Str → V} {r : Str} : ∀ {fs : List Str}, (valV (TM fs nv) (Sum.inr r)).isSome = decide (r ∈ fs)
  | [] => rfl
  | x :: fs => by
    by_cases e : x = r
    · subst e
      simp [TM, valV]
    · have ih := tm_isSome (nv := nv) (r := r) (fs := fs)
      have z : valV (TM (x :: fs) nv) (Sum.inr r) = valV (TM fs nv) (Sum.inr r) := by simp [TM, valV, e]
      rw [z, ih]
      exact decide_eq_decide.mpr ⟨fun m => List.mem_cons_of_mem _ m, fun m => by
        rcases List.mem_cons.mp m with y | y
        · exact absurd y.symm e
        · exact y⟩
def putV (nv : Str → V) (r : Str) (v : V) : Str → V := fun x => if x = r then v else nv x
theorem tm_new {nv : Str → V} {r : Str} {v : V} {fs : List Str} (m : r ∉ fs) : putK (TM fs nv) (Sum.inr r) v = TM (fs ++ [r]) (putV nv r v) := by
  unfold putK
  have a : ¬ ((TM fs nv).any fun kv => decide (kv.1 = (Sum.inr r : Key))) = true := fun z => by
    obtain ⟨kv, h1, h2⟩ := List.any_eq_true.mp z
    obtain ⟨x, hx, rfl⟩ := List.mem_map.mp h1
    exact m (Sum.inr.inj (of_decide_eq_true h2) ▸ hx)
  rw [if_neg a]
  unfold TM
  rw [List.map_append]
  congr 1
  · refine List.map_congr_left fun x hx => ?_
    have n : x ≠ r := fun z => m (z ▸ hx)
    show (_, nv x) = (_, putV nv r v x)
    rw [putV, if_neg n]
  · show [(Sum.inr r, v)] = [(Sum.inr r, putV nv r v r)]
    rw [putV, if_pos rfl]
/-- each room found but the root leads to one beside it that was found earlier: d tells when -/
structure Led (ds : List Ed) (root : Str) (fs : List Str) (nv : Str → V) (d : Str → Nat) : Prop where
  top : nv root = .non
  step : ∀ r ∈ fs, r ≠ root → ∃ q ∈ fs, nv r = .str q ∧ r ∈ nearOf ds q ∧ d q < d r
/-- the dict and the list as they stand -/
structure TInv (H0 H : Hp) (fo wa : Addr) (fs ws : List Str) (nv : Str → V) : Prop where
  f : H fo = some (.dK (TM fs nv))
  w : H wa = some (.lst (ws.map V.str))
  newF : H0 fo = none
  newW : H0 wa = none
  same : Same H0 H
  gone : ∀ x, H x = none → H0 x = none
theorem TInv.wf {H0 H : Hp} {fo wa : Addr} {fs ws : List Str} {nv : Str → V} (R : TInv H0 H fo wa fs ws nv) : wa ≠ fo := fun z => by
  have e := R.f
  rw [← z, R.w] at e
  cases e
theorem TInv.setW {H0 H : Hp} {fo wa : Addr} {fs ws vs : List Str} {nv : Str → V} (R : TInv H0 H fo wa fs ws nv) : TInv H0 (upd H wa (.lst (vs.map V.str))) fo wa fs vs nv := by
  refine ⟨by rw [upd_ne R.wf.symm]; exact R.f, upd_same, R.newF, R.newW, fun x o e => ?_, fun x z => R.gone x (none_upd z).2⟩
  rw [upd_ne (ne_of_none e R.newW)]
  exact R.same x o e
theorem TInv.setF {H0 H : Hp} {fo wa : Addr} {fs ws gs : List Str} {nv nu : Str → V} (R : TInv H0 H fo wa fs ws nv) : TInv H0 (upd H fo (.dK (TM gs nu))) fo wa gs ws nu := by
  refine ⟨upd_same, by rw [upd_ne R.wf]; exact R.w, R.newF, R.newW, fun x o e => ?_, fun x z => R.gone x (none_upd z).2⟩
  rw [upd_ne (ne_of_none e R.newF)]
  exact R.same x o e
theorem TInv.ext {H0 H H' : Hp} {fo wa : Addr} {fs ws : List Str} {nv : Str → V} (R : TInv H0 H fo wa fs ws nv) (s : Same H H') (g : ∀ x, H' x = none → H x = none) : TInv H0 H' fo wa fs ws nv :=
  ⟨s _ _ R.f, s _ _ R.w, R.newF, R.newW, R.same.trans s, fun x z => R.gone x (g x z)⟩
section
variable {P : Program} {w : World} {K : PySem.W.Frag} {mg : Str → Option Value} {base : Heap} {C : Addr}
def spTowards (K : PySem.W.Frag) (C : Addr) : Sp := fun vs H Q _ => ∃ (h : Addr) (s0 : Str) (rs : List Str) (ds : List Ed), vs = [.ref h, .str s0] ∧ HouseAt H C h rs ds ∧ rs.length < 60 ∧ s0 ∈ rs ∧ (∀ d ∈ ds, d.1 ∈ rs ∧ d.2 ∈ rs ∧ d.1 ≠ d.2) ∧
  ∀ H' p fs nv d, fs.Nodup → (∀ r ∈ fs, r ∈ rs) → (∀ r, Conn ds s0 r → r ∈ fs) → s0 ∈ fs → Led ds s0 fs nv d → H' p = some (.dK (TM fs nv)) → Same H H' → (∀ x, H' x = none → H x = none) → H p = none → Q (.ref p) H'
abbrev NTo : List Str := ["house", "root", "steps", "waiting", "room", "other"]
end
end Lamp
set_option maxHeartbeats 8000000
namespace Lamp
open PySem PySem.Spec PyProof.Rows L2
/-- the heap has grown: what was tracked stands, what is free was free -/
structure Gr (H H' : Hp) : Prop where
  s : Same H H'
  n : ∀ x, H' x = none → H x = none
theorem Gr.refl (H : Hp) : Gr H H := ⟨fun _ _ h => h, fun _ h => h⟩
theorem Gr.trans {H H1 H2 : Hp} (a : Gr H H1) (b : Gr H1 H2) : Gr H H2 := ⟨a.s.trans b.s, fun x z => a.n x (b.n x z)⟩
theorem Gr.upd {H : Hp} {a : Addr} {o : HO} (h : H a = none) : Gr H (upd H a o) := ⟨same_upd h, fun _ z => (none_upd z).2⟩
/-- grown, and what is new in it stored anew -/
theorem Gr.put {H H' : Hp} {a : Addr} {o : HO} (g : Gr H H') (h : H a = none) : Gr H (L2.upd H' a o) := ⟨fun x u e => by
  rw [upd_ne (ne_of_none e h)]
  exact g.s x u e, fun _ z => g.n _ (none_upd z).2⟩
theorem tm_get {nv : Str → V} {r : Str} : ∀ {fs : List Str}, r ∈ fs → valV (TM fs nv) (Sum.inr r) = some (nv r)
  | [], m => by cases m
  | x :: fs, m => by
    by_cases e : x = r
    · subst e
      simp [TM, valV]
    · have ih := tm_get (nv := nv) (r := r) (fs := fs) (by
        rcases List.mem_cons.mp m with z | z
        · exact absurd z.symm e
        · exact z)
      rw [← ih]
      simp [TM, valV, e]
/-- the way that nv leads from r to root -/
structure WayTo (root : Str) (fs : List Str) (nv : Str → V) (r : Str) (w : List Str) : Prop where
  head : w.head? = some r
  last : w.getLast? = some root
  mem : ∀ x ∈ w, x ∈ fs
  nodup : w.Nodup
  step : ∀ i a b, w[i]? = some a → w[i + 1]? = some b → nv a = .str b
section
variable {P : Program} {w : World} {K : PySem.W.Frag} {mg : Str → Option Value} {base : Heap} {C : Addr}
def spClimb (K : PySem.W.Frag) : Sp := fun vs H Q _ => ∃ (p : Addr) (r root : Str) (fs : List Str) (ds : List Ed) (nv : Str → V) (d : Str → Nat), vs = [.ref p, .str r] ∧ H p = some (.dK (TM fs nv)) ∧ r ∈ fs ∧ Led ds root fs nv d ∧ fs.length < 60 ∧
  ∀ H' q u, WayTo root fs nv r u → H' q = some (.lst (u.map V.str)) → Gr H H' → H q = none → Q (.ref q) H'
abbrev NCl : List Str := ["steps", "room", "rooms"]
def spWay (K : PySem.W.Frag) (C : Addr) : Sp := fun vs H Q _ => ∃ (h : Addr) (x y : Str) (rs : List Str) (ds : List Ed), vs = [.ref h, .str x, .str y] ∧ HouseAt H C h rs ds ∧ rs.length < 60 ∧ x ∈ rs ∧ y ∈ rs ∧ (∀ d ∈ ds, d.1 ∈ rs ∧ d.2 ∈ rs ∧ d.1 ≠ d.2) ∧ (∀ a ∈ rs, ∀ b ∈ rs, Conn ds a b) ∧
  ∀ H' q fs nv d u, fs.Nodup → (∀ r, r ∈ fs ↔ r ∈ rs) → Led ds y fs nv d → WayTo y fs nv x u → H' q = some (.lst (u.map V.str)) → Gr H H' → H q = none → Q (.ref q) H'
end
end Lamp
set_option maxHeartbeats 8000000
namespace Lamp
open PySem PySem.Spec PyProof.Rows L2
theorem inv_strs {z : Str} : ∀ {xs : List Str}, inV (.str z) (xs.map V.str) = decide (z ∈ xs)
  | [] => rfl
  | x :: xs => by
    show (eqV (.str x) (.str z) || inV (.str z) (xs.map V.str)) = decide (z ∈ x :: xs)
    rw [inv_strs (xs := xs)]
    show ((x == z) || decide (z ∈ xs)) = decide (z ∈ x :: xs)
    by_cases e : x = z
    · subst e
      simp
    · have n : z ≠ x := fun q => e q.symm
      simp [e, n]
theorem flat_strs (xs : List Str) : (xs.map V.str).all flatV = true := List.all_eq_true.mpr fun v hv => by
  obtain ⟨x, _, rfl⟩ := List.mem_map.mp hv
  rfl
/-- the room may come behind the one ahead -/
def Nxt (ds : List Ed) (a z : Str) : Prop := z = a ∨ z ∈ nearOf ds a
/-- a carrying -/
structure Car (rs : List Str) (ds : List Ed) (row : List Str) : Prop where
  ne : row ≠ []
  mem : ∀ r ∈ row, r ∈ rs
  nxt : ∀ i a b, row[i]? = some a → row[i + 1]? = some b → Nxt ds a b
section
variable {P : Program} {w : World} {K : PySem.W.Frag} {mg : Str → Option Value} {base : Heap} {C : Addr}
def spMay (C : Addr) : Sp := fun vs H Q _ => ∃ (h : Addr) (v : V) (z : Str) (rs : List Str) (ds : List Ed), vs = [.ref h, v, .str z] ∧ HouseAt H C h rs ds ∧ z ∈ rs ∧ (v = .non ∨ ∃ a, v = .str a ∧ a ∈ rs ∧ Nxt ds a z) ∧ ∀ H', Gr H H' → Q (.bl true) H'
abbrev NMf : List Str := ["house", "ahead", "thing"]
structure TxtC (mg : Str → Option Value) : Prop where
  len : mg "len" = none
  enu : mg "enumerate" = none
def spFault (K : PySem.W.Frag) (C : Addr) : Sp := fun vs H Q _ => ∃ (h a : Addr) (row rs : List Str) (ds : List Ed), vs = [.ref h, .ref a] ∧ HouseAt H C h rs ds ∧ SqL K H a (row.map V.str) ∧ (∀ H', Same H H' → TyX K H' (.ref a) (.type "list")) ∧ Car rs ds row ∧ ∀ H', Gr H H' → Q .non H'
abbrev NCf : List Str := ["house", "thing", "ahead", "index", "room"]
def spCarN (K : PySem.W.Frag) (C : Addr) : Sp := spFault K C
abbrev NCn : List Str := ["house", "carrying", "index"]
end
end Lamp
set_option maxHeartbeats 8000000
namespace Lamp
open PySem PySem.Spec PyProof.Rows L2
theorem tm_put {nv : Str → V} {r : Str} {v : V} {fs : List Str} (m : r ∈ fs) : putK (TM fs nv) (Sum.inr r) v = TM fs (putV nv r v) := by
  unfold putK
  have a : ((TM fs nv).any fun kv => decide (kv.1 = (Sum.inr r : Key))) = true := List.any_eq_true.mpr ⟨(Sum.inr r, nv r), List.mem_map.mpr ⟨r, m, rfl⟩, by simp⟩
  rw [if_pos a]
  unfold TM
  rw [List.map_map]
  refine List.map_congr_left fun x _ => ?_
  show (if (Sum.inr x : Key) = Sum.inr r then ((Sum.inr x : Key), v) else ((Sum.inr x : Key), nv x)) = (Sum.inr x, putV nv r v x)
  by_cases e : x = r
  · subst e
    rw [if_pos rfl, putV, if_pos rfl]
  · rw [if_neg (fun z => e (Sum.inr.inj z)), putV, if_neg e]
theorem tm_ext {nv nu : Str → V} {fs : List Str} (h : ∀ r ∈ fs, nv r = nu r) : TM fs nv = TM fs nu := List.map_congr_left fun r hr => by rw [h r hr]
/-- numbers -/
abbrev NI (c : Str → Nat) : Str → V := fun r => .int (c r : Int)
section
variable {P : Program} {w : World} {K : PySem.W.Frag} {mg : Str → Option Value} {base : Heap} {C : Addr}
def spHours (K : PySem.W.Frag) (C : Addr) : Sp := fun vs H Q _ => ∃ (h a : Addr) (row rs : List Str) (ds : List Ed), vs = [.ref h, .ref a] ∧ HouseAt H C h rs ds ∧ SqL K H a (row.map V.str) ∧ rs.Nodup ∧ rs.length < 1000 ∧ (∀ r ∈ row, r ∈ rs) ∧
  ∀ H' p, H' p = some (.dK (TM rs (NI fun r => row.count r))) → Gr H H' → H p = none → Q (.ref p) H'
abbrev NHo : List Str := ["house", "rooms", "hours", "room"]
def spLedger (K : PySem.W.Frag) (C : Addr) : Sp := fun vs H Q _ => ∃ (h a : Addr) (row rs : List Str) (ds : List Ed), vs = [.ref h, .ref a] ∧ HouseAt H C h rs ds ∧ SqL K H a (row.map V.str) ∧ (∀ H', Same H H' → TyX K H' (.ref a) (.type "list")) ∧ rs.Nodup ∧ rs.length < 1000 ∧ Car rs ds row ∧
  ∀ H' p, H' p = some (.dK (TM rs (NI fun r => row.count r))) → Gr H H' → H p = none → Q (.ref p) H'
end
end Lamp
namespace Lamp
open PySem
/-! ### rows of rooms, hour by hour -/
/-- the room of an hour -/
def at_ (row : List Str) (i : Nat) : Str := row.getD i Str.empty
theorem at_some {row : List Str} {i : Nat} {x : Str} (h : row[i]? = some x) : at_ row i = x := by
  unfold at_
  rw [List.getD_eq_getElem?_getD, h]
  rfl
theorem at_lt {row : List Str} {i : Nat} (h : i < row.length) : row[i]? = some (at_ row i) := by
  unfold at_
  rw [List.getD_eq_getElem?_getD, List.getElem?_eq_getElem h]
  rfl
/-- how many hours ahead of i, but the first, are in b, and the one ahead in a -/
def trs (row : List Str) (a b : Str) : Nat → Nat
  | 0 => 0
  | 1 => 0
  | i + 2 => trs row a b (i + 1) + if at_ row i = a ∧ at_ row (i + 1) = b then 1 else 0
/-- how many hours ahead of i begin a stay at r -/
def stn (row : List Str) (r : Str) : Nat → Nat
  | 0 => 0
  | 1 => if at_ row 0 = r then 1 else 0
  | i + 2 => stn row r (i + 1) + if at_ row (i + 1) = r ∧ at_ row i ≠ r then 1 else 0
/-- how many steps ahead of hour i lead to r or from r -/
def gon (row : List Str) (r : Str) : Nat → Nat
  | 0 => 0
  | 1 => 0
  | i + 2 => gon row r (i + 1) + if at_ row i ≠ at_ row (i + 1) ∧ (at_ row i = r ∨ at_ row (i + 1) = r) then 1 else 0
/-- how many of the first i hours are in r -/
def hrs (row : List Str) (r : Str) : Nat → Nat
  | 0 => 0
  | i + 1 => hrs row r i + if at_ row i = r then 1 else 0
theorem hrs_count {row : List Str} {r : Str} : ∀ {i : Nat}, i ≤ row.length → hrs row r i = (row.take i).count r
  | 0, _ => by simp [hrs]
  | i + 1, h => by
    have ri : row[i]? = some (at_ row i) := at_lt (by omega)
    rw [hrs, hrs_count (i := i) (by omega), List.take_add_one, ri, List.count_append]
    congr 1
    show _ = List.count r [at_ row i]
    by_cases e : at_ row i = r
    · rw [if_pos e, e]
      simp
    · rw [if_neg e]
      symm
      exact List.count_eq_zero.mpr (by simpa using fun z => e z.symm)
/-- stays at r by the steps to it and from it -/
theorem gon_stn (row : List Str) (r : Str) : ∀ i, gon row r (i + 1) + (if at_ row 0 = r then 1 else 0) + (if at_ row i = r then 1 else 0) = 2 * stn row r (i + 1)
  | 0 => by
    show 0 + _ + _ = 2 * (if at_ row 0 = r then 1 else 0)
    omega
  | i + 1 => by
    have ih := gon_stn row r i
    show gon row r (i + 1) + (if at_ row i ≠ at_ row (i + 1) ∧ (at_ row i = r ∨ at_ row (i + 1) = r) then 1 else 0) + (if at_ row 0 = r then 1 else 0) + (if at_ row (i + 1) = r then 1 else 0) = 2 * (stn row r (i + 1) + if at_ row (i + 1) = r ∧ at_ row i ≠ r then 1 else 0)
    generalize (if at_ row 0 = r then 1 else 0) = z at ih ⊢
    by_cases p : at_ row i = r
    · rw [if_pos p] at ih
      by_cases q : at_ row (i + 1) = r
      · rw [if_neg (fun z => z.1 (p.trans q.symm)), if_pos q, if_neg (fun z => z.2 p)]
        omega
      · rw [if_pos ⟨fun z => q (z ▸ p), .inl p⟩, if_neg q, if_neg (fun z => q z.1)]
        omega
    · rw [if_neg p] at ih
      by_cases q : at_ row (i + 1) = r
      · rw [if_pos ⟨fun z => p (z.trans q), .inr q⟩, if_pos q, if_pos ⟨q, p⟩]
        omega
      · rw [if_neg (fun z => by rcases z.2 with z | z; exact p z; exact q z), if_neg q, if_neg (fun z => q z.1)]
        omega
/-- hours are stays at least -/
theorem stn_hrs (row : List Str) (r : Str) : ∀ i, stn row r i ≤ hrs row r i
  | 0 => Nat.le_refl _
  | 1 => by
    show (if at_ row 0 = r then 1 else 0) ≤ 0 + if at_ row 0 = r then 1 else 0
    omega
  | i + 2 => by
    have ih := stn_hrs row r (i + 1)
    show stn row r (i + 1) + (if at_ row (i + 1) = r ∧ at_ row i ≠ r then 1 else 0) ≤ hrs row r (i + 1) + if at_ row (i + 1) = r then 1 else 0
    by_cases q : at_ row (i + 1) = r
    · rw [if_pos q]
      split <;> omega
    · rw [if_neg (fun z => q z.1), if_neg q]
      omega
/-- what has been gone through has a room ahead and a room behind -/
theorem trs_pos {row : List Str} {a b : Str} : ∀ {i : Nat}, 0 < trs row a b i → ∃ j, j + 1 < i ∧ at_ row j = a ∧ at_ row (j + 1) = b
  | 0, h => absurd h (Nat.lt_irrefl 0)
  | 1, h => absurd h (Nat.lt_irrefl 0)
  | i + 2, h => by
    by_cases e : at_ row i = a ∧ at_ row (i + 1) = b
    · exact ⟨i, by omega, e.1, e.2⟩
    · have h' : 0 < trs row a b (i + 1) + if at_ row i = a ∧ at_ row (i + 1) = b then 1 else 0 := h
      rw [if_neg e] at h'
      obtain ⟨j, h1, h2⟩ := trs_pos (i := i + 1) h'
      exact ⟨j, by omega, h2⟩
theorem trs_of {row : List Str} {a b : Str} : ∀ {i j : Nat}, j + 1 < i → at_ row j = a → at_ row (j + 1) = b → 0 < trs row a b i
  | 0, j, h, _, _ => by omega
  | 1, j, h, _, _ => by omega
  | i + 2, j, h, h1, h2 => by
    show 0 < trs row a b (i + 1) + if at_ row i = a ∧ at_ row (i + 1) = b then 1 else 0
    by_cases e : j = i
    · subst e
      rw [if_pos ⟨h1, h2⟩]
      omega
    · have := trs_of (i := i + 1) (j := j) (by omega) h1 h2
      omega
/-- who goes along a height f that steps alone from a to b, or back, change by one: passes there, less back, tell the difference -/
theorem trs_diff {row : List Str} {a b : Str} (f : Str → Int) (ne : a ≠ b) (up : f b = f a + 1) : ∀ {i : Nat}, (∀ j, j + 1 < i + 1 → (at_ row j = a ∧ at_ row (j + 1) = b) ∨ (at_ row j = b ∧ at_ row (j + 1) = a) ∨ f (at_ row (j + 1)) = f (at_ row j)) →
    (trs row a b (i + 1) : Int) - trs row b a (i + 1) = f (at_ row i) - f (at_ row 0)
  | 0, _ => by
    show ((0 : Nat) : Int) - (0 : Nat) = _
    omega
  | i + 1, h => by
    have ih := trs_diff (i := i) f ne up fun j hj => h j (by omega)
    have s := h i (by omega)
    show ((trs row a b (i + 1) + (if at_ row i = a ∧ at_ row (i + 1) = b then 1 else 0) : Nat) : Int) - ((trs row b a (i + 1) + (if at_ row i = b ∧ at_ row (i + 1) = a then 1 else 0) : Nat) : Int) = _
    by_cases p : at_ row i = a ∧ at_ row (i + 1) = b
    · have q : ¬ (at_ row i = b ∧ at_ row (i + 1) = a) := fun z => ne (p.1.symm.trans z.1)
      rw [if_pos p, if_neg q, p.2, up]
      rw [p.1] at ih
      omega
    · by_cases q : at_ row i = b ∧ at_ row (i + 1) = a
      · rw [if_neg p, if_pos q, q.2]
        rw [q.1] at ih
        omega
      · rw [if_neg p, if_neg q]
        rcases s with s | s | s
        · exact absurd s p
        · exact absurd s q
        · omega
/-- the passes of all pairs with r, whichever stand in a list once each, are the steps to r and from it -/
theorem sum_ind {α : Type} [DecidableEq α] {x : α} {g : α → Nat} : ∀ {l : List α}, l.Nodup → x ∈ l → (l.map fun y => if x = y then g y else 0).sum = g x
  | [], _, h => by cases h
  | y :: l, nd, h => by
    obtain ⟨h1, h2⟩ := List.nodup_cons.mp nd
    have z : ∀ {m : List α}, x ∉ m → (m.map fun y => if x = y then g y else 0).sum = 0 := fun {m} hm => by
      induction m with
      | nil => rfl
      | cons u m ih =>
        rw [List.map_cons, List.sum_cons, if_neg (fun e : x = u => hm (e ▸ List.mem_cons_self)), ih (fun e => hm (List.mem_cons_of_mem _ e))]
    rw [List.map_cons, List.sum_cons]
    by_cases e : x = y
    · subst e
      rw [if_pos rfl, z h1]
      rfl
    · rw [if_neg e, sum_ind h2 ((List.mem_cons.mp h).resolve_left e)]
      omega
theorem sum_add {α : Type} {f g : α → Nat} : ∀ {l : List α}, (l.map fun y => f y + g y).sum = (l.map f).sum + (l.map g).sum
  | [] => rfl
  | y :: l => by
    rw [List.map_cons, List.sum_cons, List.map_cons, List.sum_cons, List.map_cons, List.sum_cons, sum_add]
    omega
theorem sum_zero {α : Type} {f : α → Nat} : ∀ {l : List α}, (∀ y ∈ l, f y = 0) → (l.map f).sum = 0
  | [], _ => rfl
  | y :: l, h => by rw [List.map_cons, List.sum_cons, h y List.mem_cons_self, sum_zero fun z hz => h z (List.mem_cons_of_mem _ hz)]
/-- passes of a list of pairs in which all steps to r and from r stand -/
theorem trs_sum {row : List Str} {r : Str} {ps : List Ed} (nd : ps.Nodup) (ne : ∀ p ∈ ps, p.1 ≠ p.2) : ∀ {i : Nat}, (∀ j, j + 1 < i → at_ row j ≠ at_ row (j + 1) → (at_ row j = r ∨ at_ row (j + 1) = r) → (at_ row j, at_ row (j + 1)) ∈ ps) →
    (ps.map fun p => if p.1 = r ∨ p.2 = r then trs row p.1 p.2 i else 0).sum = gon row r i
  | 0, _ => sum_zero fun y _ => by
    show (if y.1 = r ∨ y.2 = r then 0 else 0) = 0
    exact ite_self 0
  | 1, _ => sum_zero fun y _ => by
    show (if y.1 = r ∨ y.2 = r then 0 else 0) = 0
    exact ite_self 0
  | i + 2, h => by
    have ih := trs_sum (row := row) (r := r) nd ne (i := i + 1) fun j hj => h j (by omega)
    have e : (fun p : Ed => if p.1 = r ∨ p.2 = r then trs row p.1 p.2 (i + 2) else 0) = fun p : Ed => (if p.1 = r ∨ p.2 = r then trs row p.1 p.2 (i + 1) else 0) + if (at_ row i, at_ row (i + 1)) = p then (if p.1 = r ∨ p.2 = r then 1 else 0) else 0 := by
      funext p
      obtain ⟨x, y⟩ := p
      show (if x = r ∨ y = r then trs row x y (i + 1) + (if at_ row i = x ∧ at_ row (i + 1) = y then 1 else 0) else 0) = _
      by_cases c : x = r ∨ y = r
      · simp only [if_pos c, Prod.mk.injEq]
      · simp only [if_neg c]
        split <;> rfl
    rw [e, sum_add, ih]
    show gon row r (i + 1) + _ = gon row r (i + 1) + _
    congr 1
    by_cases q : at_ row i = at_ row (i + 1)
    · rw [if_neg (fun z => z.1 q)]
      refine sum_zero fun p hp => ?_
      rw [if_neg]
      intro z
      exact ne p hp (by rw [← z]; exact q)
    · by_cases c : at_ row i = r ∨ at_ row (i + 1) = r
      · have m := h i (by omega) q c
        rw [sum_ind (g := fun p : Ed => if p.1 = r ∨ p.2 = r then 1 else 0) nd m, if_pos c, if_pos ⟨q, c⟩]
      · rw [if_neg (fun z => c z.2)]
        refine sum_zero fun p _ => ?_
        by_cases z : (at_ row i, at_ row (i + 1)) = p
        · subst z
          rw [if_pos rfl, if_neg c]
        · rw [if_neg z]
end Lamp
set_option maxHeartbeats 8000000
namespace Lamp
open PySem PySem.Spec PyProof.Rows L2
/-- tuples (room, number) -/
def RnAt (H : Hp) (ts : List Addr) (L : List (Str × Nat)) : Prop := Paired (fun t e => H t = some (.tup [.str e.1, .int (e.2 : Int)])) ts L
theorem RnAt.same {H H' : Hp} {ts : List Addr} {L : List (Str × Nat)} (h : RnAt H ts L) (s : Same H H') : RnAt H' ts L := Paired.imp (fun _ _ e => s _ _ e) h
theorem paired_len {α β : Type} {R : α → β → Prop} : ∀ {xs : List α} {ys : List β}, Paired R xs ys → xs.length = ys.length
  | [], [], .nil => rfl
  | _ :: _, _ :: _, .cons _ r => congrArg (· + 1) (paired_len r)
theorem paired_snoc {α β : Type} {R : α → β → Prop} {a : α} {b : β} (h : R a b) : ∀ {xs : List α} {ys : List β}, Paired R xs ys → Paired R (xs ++ [a]) (ys ++ [b])
  | [], [], .nil => .cons h .nil
  | _ :: _, _ :: _, .cons r q => .cons r (paired_snoc h q)
theorem paired_unsnoc {α β : Type} {R : α → β → Prop} {b : β} : ∀ {xs : List α} {ys : List β}, Paired R xs (ys ++ [b]) → ∃ xs' a, xs = xs' ++ [a] ∧ Paired R xs' ys ∧ R a b
  | [], [], h => by cases h
  | [], _ :: _, h => by cases h
  | x :: xs, [], .cons r q => by
    cases q
    exact ⟨[], x, rfl, .nil, r⟩
  | x :: xs, y :: ys, .cons r q => by
    obtain ⟨xs', a, rfl, q1, q2⟩ := paired_unsnoc (xs := xs) (ys := ys) q
    exact ⟨x :: xs', a, rfl, .cons r q1, q2⟩
/-- the stays of the first i hours, one by one -/
def stl (row : List Str) : Nat → List (Str × Nat)
  | 0 => []
  | i + 1 => match (stl row i).reverse with
    | [] => [(at_ row i, 1)]
    | e :: rest => if e.1 = at_ row i then rest.reverse ++ [(e.1, e.2 + 1)] else stl row i ++ [(at_ row i, 1)]
theorem stl_stay {row : List Str} {i n : Nat} {L0 : List (Str × Nat)} (h : stl row (i + 1) = L0 ++ [(at_ row i, n)]) (e : at_ row i = at_ row (i + 1)) : stl row (i + 2) = L0 ++ [(at_ row (i + 1), n + 1)] := by
  show (match (stl row (i + 1)).reverse with
    | [] => _
    | e :: rest => if e.1 = at_ row (i + 1) then rest.reverse ++ [(e.1, e.2 + 1)] else _) = _
  rw [h, List.reverse_append]
  show (if at_ row i = at_ row (i + 1) then L0.reverse.reverse ++ [(at_ row i, n + 1)] else _) = _
  rw [if_pos e, List.reverse_reverse, e]
theorem stl_come {row : List Str} {i n : Nat} {L0 : List (Str × Nat)} (h : stl row (i + 1) = L0 ++ [(at_ row i, n)]) (e : at_ row i ≠ at_ row (i + 1)) : stl row (i + 2) = stl row (i + 1) ++ [(at_ row (i + 1), 1)] := by
  show (match (stl row (i + 1)).reverse with
    | [] => _
    | e :: rest => if e.1 = at_ row (i + 1) then _ else stl row (i + 1) ++ [(at_ row (i + 1), 1)]) = _
  rw [h, List.reverse_append]
  show (if at_ row i = at_ row (i + 1) then _ else _) = _
  rw [if_neg e]
/-- the stays of the first i hours -/
structure StInv (row : List Str) (i : Nat) (L : List (Str × Nat)) : Prop where
  many : ∀ r, (L.filter fun e => decide (e.1 = r)).length = stn row r i
  sum : (L.map (·.2)).sum = i
  last : 0 < i → ∃ L0 n, L = L0 ++ [(at_ row (i - 1), n)]
  is : L = stl row i
theorem StInv.zero (row : List Str) : StInv row 0 [] := ⟨fun _ => rfl, rfl, fun h => absurd h (Nat.lt_irrefl 0), rfl⟩
theorem StInv.stay {row : List Str} {i n : Nat} {L0 : List (Str × Nat)} (h : StInv row (i + 1) (L0 ++ [(at_ row i, n)])) (e : at_ row i = at_ row (i + 1)) : StInv row (i + 2) (L0 ++ [(at_ row (i + 1), n + 1)]) := by
  refine ⟨fun r => ?_, ?_, fun _ => ⟨L0, n + 1, rfl⟩, (stl_stay h.is.symm e).symm⟩
  · have z := h.many r
    rw [List.filter_append, List.length_append] at z ⊢
    have e2 : ([(at_ row (i + 1), n + 1)].filter fun e => decide (e.1 = r)).length = ([(at_ row i, n)].filter fun e => decide (e.1 = r)).length := by
      rw [e]
      by_cases q : at_ row (i + 1) = r
      · rw [List.filter_cons_of_pos (by simp [q]), List.filter_cons_of_pos (by simp [q])]
        rfl
      · rw [List.filter_cons_of_neg (by simp [q]), List.filter_cons_of_neg (by simp [q])]
    have e3 : stn row r (i + 2) = stn row r (i + 1) := by
      show stn row r (i + 1) + (if at_ row (i + 1) = r ∧ at_ row i ≠ r then 1 else 0) = _
      rw [if_neg (fun q => q.2 (e.trans q.1))]
      rfl
    rw [e2, e3]
    exact z
  · have z := h.sum
    rw [List.map_append, List.sum_append] at z ⊢
    have z' : (L0.map (·.2)).sum + (n + 0) = i + 1 := z
    show (L0.map (·.2)).sum + (n + 1 + 0) = i + 2
    omega
theorem StInv.come {row : List Str} {i : Nat} {L : List (Str × Nat)} (h : StInv row i L) (e : 0 < i → at_ row (i - 1) ≠ at_ row i) : StInv row (i + 1) (L ++ [(at_ row i, 1)]) := by
  refine ⟨fun r => ?_, ?_, fun _ => ⟨L, 1, rfl⟩, ?_⟩
  rotate_left 2
  · cases i with
    | zero =>
      rw [h.is]
      rfl
    | succ i =>
      obtain ⟨L0, n, q⟩ := h.last (Nat.succ_pos i)
      rw [stl_come (h.is.symm.trans q) (e (Nat.succ_pos i)), ← h.is]
  · rw [List.filter_append, List.length_append, h.many r]
    cases i with
    | zero =>
      show 0 + _ = if at_ row 0 = r then 1 else 0
      by_cases q : at_ row 0 = r
      · rw [List.filter_cons_of_pos (by simp [q]), if_pos q]
        rfl
      · rw [List.filter_cons_of_neg (by simp [q]), if_neg q]
        rfl
    | succ i =>
      have e := e (Nat.succ_pos i)
      show _ = stn row r (i + 1) + if at_ row (i + 1) = r ∧ at_ row i ≠ r then 1 else 0
      congr 1
      by_cases q : at_ row (i + 1) = r
      · rw [List.filter_cons_of_pos (by simp [q]), if_pos ⟨q, fun z => e (z.trans q.symm)⟩]
        rfl
      · rw [List.filter_cons_of_neg (by simp [q]), if_neg (fun z => q z.1)]
        rfl
  · rw [List.map_append, List.sum_append, h.sum]
    rfl
section
variable {P : Program} {w : World} {K : PySem.W.Frag} {mg : Str → Option Value} {base : Heap} {C : Addr}
def spStays (K : PySem.W.Frag) (C : Addr) : Sp := fun vs H Q _ => ∃ (h a : Addr) (row rs : List Str) (ds : List Ed), vs = [.ref h, .ref a] ∧ HouseAt H C h rs ds ∧ SqL K H a (row.map V.str) ∧ (∀ H', Same H H' → TyX K H' (.ref a) (.type "list")) ∧ Car rs ds row ∧ row.length < 1000 ∧
  ∀ H' p ts L, H' p = some (.lst (ts.map V.ref)) → RnAt H' ts L → StInv row row.length L → L.length ≤ row.length → Gr H H' → H p = none → Q (.ref p) H'
abbrev NSt : List Str := ["house", "carrying", "told", "index", "room"]
end
end Lamp
set_option maxHeartbeats 4000000
namespace Lamp
open PySem PySem.Spec PyProof.Rows L2
section
variable {prog : Program} {w : World} {A : Around} {E : Value → Shared → Prop} {s : Shared}
/-- what a tuple is collected to -/
theorem gather_tup {t : Addr} {o : Obj} {vs : List Value} {n : Nat} {Q : List Value → Shared → Prop} (ot : s.heap.get? t = some o) (ct : o.cls = .type "tuple") (dt : o.data = .seq vs.toArray n) (small : vs.length ≤ sizeLine)
    (k : Q vs { s with heap := (s.heap.push (seqObj "list" #[] 0)).update s.heap.objs.size (Obj.mapSeq (· ++ vs.toArray)) }) : wpAny (model prog w) A (PySem.collect (.ref t)) Q E s := by
  unfold PySem.collect
  apply wpAny_bind
  apply wpAny_runValue
  apply codeAny_builtin entry_proto_collect'
  show wpAny _ _ (do again (.builtin "list.__iadd__" ⟨[← newList [], .ref t], []⟩)) _ _ s
  refine wpAny_bind (wpAny_newList ?_ (Nat.zero_le _))
  · refine wpAny_pure ⟨Code.quiet_builtin _ (by decide +kernel), codeAny_builtin entry_list_iadd' ?_⟩
    show wpAny _ _ (Builtin.List.listExtendWith (.ref s.heap.objs.size) (.ref t) (.ref s.heap.objs.size)) _ _ { s with heap := s.heap.push (seqObj "list" #[] 0) }
    unfold Builtin.List.listExtendWith
    have ot2 : (s.heap.push (seqObj "list" #[] 0)).get? t = some o := Heap.get?_push_of_some _ ot
    have oL : (s.heap.push (seqObj "list" #[] 0)).get? s.heap.objs.size = some (seqObj "list" #[] 0) := Heap.get?_push_size _ rfl
    refine wpAny_bind (wpAny_typeOf (T := "tuple") ⟨o, ot2, ct⟩ ?_)
    have isT : (Value.type "tuple" == Value.type "tuple") = true := by rfl
    rw [if_pos (by rw [isT]; simp)]
    refine wpAny_bind (listItems_at ot2 dt ?_)
    refine wpAny_bind (listItems_at (xs := #[]) (n := 0) oL rfl ?_)
    rw [if_neg (by simp)]
    have few : (#[] ++ vs.toArray).size ≤ sizeLine + 1 := by
      simp only [Array.size_append, List.size_toArray, List.length_nil]
      omega
    refine wpAny_bind (listUpdate_at (xs := #[]) (n := 0) oL rfl ?_ (Nat.zero_le _) few)
    apply wpAny_pure
    show wpAny (model prog w) A (do
        let o ← load s.heap.objs.size
        match o.data with
        | .seq xs _ => pure xs.toList
        | _ => unsupported "internal:collect") Q E { s with heap := (s.heap.push (seqObj "list" #[] 0)).update s.heap.objs.size (Obj.mapSeq (· ++ vs.toArray)) }
    apply wpAny_bind
    apply wpAny_load (get?_update_seq oL _)
    show wpAny _ _ (pure ((#[] : Array Value) ++ vs.toArray).toList) Q E _
    have same : ((#[] : Array Value) ++ vs.toArray).toList = vs := by simp
    rw [same]
    exact wpAny_pure k
/-- sorted(t), t a tuple of texts -/
theorem sorted_tupS {t : Addr} {o : Obj} {vs : List Value} {ss : List Str} {n : Nat} {Q : Value → Shared → Prop} (ot : s.heap.get? t = some o) (ct : o.cls = .type "tuple") (dt : o.data = .seq vs.toArray n) (hS : StrsAre vs ss) (h64 : vs.length < 64)
    (k : ∀ (out : Array Value) (ys : List Str), StrsAre out.toList ys → ys.Perm ss → sortedS ys = true → Q (.ref (s.heap.objs.size + 1)) { s with heap := sortedAll s.heap vs out }) : wpAny (model prog w) A (call (.builtin "sorted") [.ref t]) Q E s := by
  have small : vs.length ≤ sizeLine := Nat.le_trans (Nat.le_of_lt h64) (by decide)
  apply Calls.call_function_entry kind_sorted plain_sorted entry_sorted (args_sorted1 _)
  unfold Builtin.«sorted»
  apply wpAny_bind (m := checkCount "sorted" 1 1 _)
  apply wpAny_pure
  apply wpAny_bind
  refine gather_tup ot ct dt small ?_
  apply wpAny_bind
  apply wpAny_newList _ small
  have many : ((s.heap.push (seqObj "list" #[] 0)).update s.heap.objs.size (Obj.mapSeq (· ++ vs.toArray))).objs.size = s.heap.objs.size + 1 := by
    rw [Heap.size_update, size_push']
  have oN : (((s.heap.push (seqObj "list" #[] 0)).update s.heap.objs.size (Obj.mapSeq (· ++ vs.toArray))).push (seqObj "list" vs.toArray 0)).get? (s.heap.objs.size + 1) = some (seqObj "list" vs.toArray 0) := by
    rw [← many]
    exact Heap.get?_push_size _ rfl
  show wpAny _ _ _ _ _ { s with heap := ((s.heap.push (seqObj "list" #[] 0)).update s.heap.objs.size (Obj.mapSeq (· ++ vs.toArray))).push (seqObj "list" vs.toArray 0) }
  rw [many]
  apply wpAny_bind
  apply wpAny_holding
  refine wpAny_call_entry slot_list_sort ⟨_, oN, rfl⟩ entry_list_sort (list_sort_treeK strKind_oneLt (s := { s with heap := ((s.heap.push (seqObj "list" #[] 0)).update s.heap.objs.size (Obj.mapSeq (· ++ vs.toArray))).push (seqObj "list" vs.toArray 0) }) oN hS.keysOf (fun v₁ v₂ rest e => keyKind_strs (by rw [← e]; exact hS)) h64 fun st' hp hs => ⟨_, rfl, ?_⟩) (args_list_sort _)
  obtain ⟨ys, g1, g2, g3⟩ := sorted_out_str hS hp hs
  exact wpAny_pure ⟨_, rfl, k _ ys g1 g2 g3⟩
end
/-- sorted(t), t a tuple of texts: a new list -/
def rSortTup (K : PySem.W.Frag) : List V → Hp → VK → Prop := fun vs H Q => ∃ (a : Addr) (xs : List Str), vs = [.ref a] ∧ SqT K H a (xs.map V.str) ∧ xs.length < 64 ∧ ∀ (ys : List Str) (p : Addr), ys.Perm xs → sortedS ys = true → H p = none → Q (.ref p) (upd H p (.lst (ys.map V.str)))
theorem cr_sortTup {X : Cx} : CallR X (.builtin "sorted") (rSortTup X.K) := by
  intro pins s σ H vs us Q I r h
  obtain ⟨a, xs, rfl, hs, h64, q⟩ := h
  obtain ⟨its, rv, ⟨o, ho, hc, n, hd⟩, _⟩ := I.tuple hs
  rw [Vals.ref1 r]
  have ln := rv.length
  rw [List.length_map] at ln
  refine sorted_tupS ho hc hd rv.strs (by rw [← ln]; exact h64) fun out ys h1 h2 h3 => ?_
  obtain ⟨ep, oe⟩ := sortedAll_at s.heap its out
  have few : (ys.map V.str).length ≤ sizeLine := by
    rw [List.length_map, h2.length_eq]
    exact small64 h64
  exact ⟨.ref _, upd H (s.heap.objs.size + 1) (.lst (ys.map V.str)), I.laid (t' := s.toks) (fun _ _ => sortedAll_old) (Nat.le_succ _) ⟨few, out.toList, ep, vals_of_strs h1, oe⟩, rfl, q ys _ h2 h3 (I.hok.fresh (Nat.le_succ _))⟩
end Lamp
set_option maxHeartbeats 4000000
namespace Lamp
open PySem PySem.Spec PyProof.Rows L2 Srt
section
variable {prog : Program} {w : World} {A : Around} {E : Value → Shared → Prop} {s : Shared}
/-- a tuple of two texts -/
def TwoS (h : Heap) (v : Value) (x y : Str) : Prop := ∃ a o t u n, v = .ref a ∧ h.get? a = some o ∧ o.cls = .type "tuple" ∧ o.data = .seq #[.str x t, .str y u] n
theorem TwoS.stay {h g : Heap} {v : Value} {x y : Str} (p : TwoS h v x y) (k : ∀ b o, h.get? b = some o → o.cls = .type "tuple" → g.get? b = some o) : TwoS g v x y :=
  let ⟨a, o, t, u, n, e, ho, hc, hd⟩ := p
  ⟨a, o, t, u, n, e, k _ _ ho hc, hc, hd⟩
theorem two_tot {vs : List Value} (all : ∀ v ∈ vs, ∃ x y, TwoS s.heap v x y) : Tot prog w A s (tuples' true) (fun p => p.1 ∈ vs) := by
  intro p q mp mq
  obtain ⟨x, y, a, o, t, u, n, e, ho, hc, hd⟩ := all _ mp
  obtain ⟨x', y', a', o', t', u', n', e', ho', hc', hd'⟩ := all _ mq
  rw [e, e']
  let ans : Bool := if x = x' then (if y = y' then false else decide (y.cps.toList < y'.cps.toList)) else decide (x.cps.toList < x'.cps.toList)
  refine ⟨ans, PySem.W.kat_lt ho hd ho' hd' ?_⟩
  show PySem.W.KatLex prog w A true (decide (2 < 2)) _ [(.str x t, .str x' t'), (.str y u, .str y' u')] 0 s
  apply PySem.W.kat_cons
  refine SeqAt.EqAt.str_str x t x' t' prog w _ _ (PySem.W.kat_go (fun e1 => ?_) fun e1 => ?_)
  · have hx : x = x' := by simpa using e1
    apply PySem.W.kat_yes
    apply PySem.W.kat_cons
    refine SeqAt.EqAt.str_str y u y' u' prog w _ _ (PySem.W.kat_go (fun e2 => ?_) fun e2 => ?_)
    · have hy : y = y' := by simpa using e2
      have ea : ans = false := by
        show (if x = x' then (if y = y' then false else _) else _) = false
        rw [if_pos hx, if_pos hy]
      exact PySem.W.kat_yes (PySem.W.kat_nil ⟨rfl, ea.symm⟩)
    · have hy : ¬ y = y' := by simpa using e2
      have ea : ans = decide (y.cps.toList < y'.cps.toList) := by
        show (if x = x' then (if y = y' then false else _) else _) = _
        rw [if_pos hx, if_neg hy]
      apply PySem.W.kat_no
      apply PySem.W.kat_one
      apply PyProof.Rows.lt_str
      exact (show s = s ∧ decide (y.cps.toList < y'.cps.toList) = ans from ⟨rfl, ea.symm⟩)
  · have hx : ¬ x = x' := by simpa using e1
    have ea : ans = decide (x.cps.toList < x'.cps.toList) := by
      show (if x = x' then _ else _) = _
      rw [if_neg hx]
    apply PySem.W.kat_no
    exact oneLt_str ⟨rfl, ea.symm⟩
theorem two_heads {h : Heap} : ∀ {vs : List Value}, (∀ v ∈ vs, ∃ x y, TwoS h v x y) → ∃ fs : List Value, PySem.W.KatTups h vs fs ∧ fs.length = vs.length ∧ ∀ f ∈ fs, ∃ x t, f = Value.str x t
  | [], _ => ⟨[], .nil, rfl, fun _ m => by cases m⟩
  | v :: vs, all => by
    obtain ⟨fs, h1, h2, h3⟩ := two_heads (vs := vs) fun u m => all u (List.mem_cons_of_mem _ m)
    obtain ⟨x, y, a, o, t, u, n, rfl, ho, hc, hd⟩ := all v List.mem_cons_self
    exact ⟨.str x t :: fs, .cons ho hc hd rfl h1, congrArg (· + 1) h2, fun f m => (List.mem_cons.mp m).elim (fun e => ⟨x, t, e⟩) (h3 f)⟩
theorem two_sortable {a : Addr} {vs : List Value} (some_ : 0 < vs.length) (all : ∀ v ∈ vs, ∃ x y, TwoS s.heap v x y) (own : ∀ o, s.heap.get? a = some o → o.cls ≠ .type "tuple") : Sortable prog w A s a vs := by
  intro g keep
  have all' : ∀ v ∈ vs, ∃ x y, TwoS g v x y := fun v m => by
    obtain ⟨x, y, p⟩ := all v m
    exact ⟨x, y, p.stay fun b o e c => keep b o (fun z => own o (z ▸ e) c) e⟩
  obtain ⟨fs, h1, h2, h3⟩ := two_heads all'
  refine ⟨tuples' true, fun Q E q => ?_, two_tot all'⟩
  refine PySem.W.kat_kind (T := .type "str") h1 (by omega) (fun f m => ?_) (by rfl) ?_
  · obtain ⟨x, t, rfl⟩ := h3 f m
    exact PySem.W.Looks.now
  · rw [show (Value.type "str" != Value.type "tuple") = true by decide +kernel]
    exact q
end
/-- sorted(xs), xs a list of pairs of texts: a new list of the same pairs, in some order -/
def rSortTwo (K : PySem.W.Frag) : List V → Hp → VK → Prop := fun vs H Q => ∃ a ts es, vs = [V.ref a] ∧ SqL K H a (List.map V.ref ts) ∧ TupsAt H ts es ∧
  ∀ us p, us.Perm ts → H p = none → Q (.ref p) (upd H p (.lst (List.map V.ref us)))
theorem back_refs (us : List Addr) : (us.map Value.ref).map backV = us.map V.ref := by
  rw [List.map_map]
  rfl
theorem cr_sortTwo {X : Cx} : CallR X (.builtin "sorted") (rSortTwo X.K) := by
  intro pins s σ H vs us Q I r h
  obtain ⟨a, ts, es, rfl, hs, ht, q⟩ := h
  obtain ⟨its, rv, hl, hz⟩ := I.list hs
  obtain ⟨u, rfl, ru⟩ := vals1 r
  obtain rfl : u = Value.ref a := ru
  have ev : its = ts.map Value.ref := by
    clear hs ht hl hz q
    induction ts generalizing its with
    | nil =>
      cases rv
      rfl
    | cons t ts ih =>
      cases rv with
      | cons r1 r2 =>
        cases r1
        rw [ih _ r2]
        rfl
  subst ev
  have two : ∀ t ∈ ts, ∃ x y, TwoS s.heap (.ref t) x y := fun t m => by
    obtain ⟨i, hi, e⟩ := List.getElem_of_mem m
    obtain ⟨ed, _, at2⟩ := paired_at (i := i) ht (by rw [List.getElem?_eq_getElem hi, e])
    obtain ⟨_, its2, r2, o, ho, hc, n, hd⟩ := I.hok _ _ at2
    obtain ⟨u1, u2, rfl, ri, rj⟩ := vals2 r2
    obtain ⟨t1, rfl⟩ := ri
    obtain ⟨t2, rfl⟩ := rj
    exact ⟨_, _, t, o, t1, t2, n, rfl, ho, hc, hd⟩
  refine sorted_any hl.isList (by rw [← rv.length]; exact hz) (fun many h₁ b hb keep => ?_) fun out hp => ?_
  · refine two_sortable (s := { s with heap := h₁ }) (by omega) (fun v m => ?_) fun o e => ?_
    · obtain ⟨t, mt, rfl⟩ := List.mem_map.mp m
      obtain ⟨x, y, p⟩ := two t mt
      exact ⟨x, y, p.stay fun c o e _ => (keep c o e).2⟩
    · cases e.symm.trans hb
      exact fun c => absurd (Value.type.inj c) (by decide)
  · obtain ⟨ws, ew, pw⟩ : ∃ ws : List Addr, out = ws.map Value.ref ∧ ws.Perm ts := by
      have isr : ∀ v ∈ out, ∃ t, v = Value.ref t := fun v m => by
        obtain ⟨t, _, e⟩ := List.mem_map.mp (hp.mem_iff.mp m)
        exact ⟨t, e.symm⟩
      let f : Value → Addr := fun v => match v with
        | .ref t => t
        | _ => 0
      have e1 : ∀ l : List Value, (∀ v ∈ l, ∃ t, v = Value.ref t) → (l.map f).map Value.ref = l := fun l hl => by
        rw [List.map_map]
        conv => rhs; rw [← List.map_id l]
        refine List.map_congr_left fun v m => ?_
        obtain ⟨t, rfl⟩ := hl v m
        rfl
      have e2 : (ts.map Value.ref).map f = ts := by
        rw [List.map_map]
        conv => rhs; rw [← List.map_id ts]
        exact List.map_congr_left fun v m => rfl
      exact ⟨out.map f, (e1 out isr).symm, by
        have z := hp.map f
        rw [e2] at z
        exact z⟩
    subst ew
    obtain ⟨n, on⟩ := sortedAll_at s.heap (ts.map Value.ref) (ws.map Value.ref).toArray
    have few : (ws.map V.ref).length ≤ sizeLine := by
      rw [List.length_map, pw.length_eq]
      rw [List.length_map] at hz
      exact hz
    have vals : Vals (ws.map V.ref) (ws.map Value.ref) := by
      have z := vals_back (us := ws.map Value.ref) fun u m => by
        obtain ⟨t, _, e⟩ := List.mem_map.mp m
        exact ⟨t, e.symm⟩
      rw [back_refs] at z
      exact z
    exact ⟨.ref _, upd H (s.heap.objs.size + 1) (.lst (ws.map V.ref)), I.laid (t' := s.toks) (fun _ _ => sortedAll_old) (Nat.le_succ _) ⟨few, ws.map Value.ref, n, vals, on⟩, rfl, q ws _ pw (I.hok.fresh (Nat.le_succ _))⟩
end Lamp
set_option maxHeartbeats 4000000
namespace Lamp
open PySem PySem.Spec PyProof.Rows L2 Srt
/-! ### sorted of pairs of texts, the order told -/
theorem paired_permL {α β : Type} {R : α → β → Prop} {xs xs' : List α} (p : xs.Perm xs') : ∀ {ys : List β}, Paired R xs ys → ∃ ys', ys.Perm ys' ∧ Paired R xs' ys' := by
  induction p with
  | nil =>
    intro ys h
    cases h
    exact ⟨[], .refl _, .nil⟩
  | cons x _ ih =>
    intro ys h
    cases h with
    | cons r q =>
      obtain ⟨zs, h1, h2⟩ := ih q
      exact ⟨_ :: zs, h1.cons _, .cons r h2⟩
  | swap a b l =>
    intro ys h
    cases h with
    | cons r q =>
      cases q with
      | cons r2 q2 => exact ⟨_, List.Perm.swap _ _ _, .cons r2 (.cons r q2)⟩
  | trans _ _ ih1 ih2 =>
    intro ys h
    obtain ⟨zs, h1, h2⟩ := ih1 h
    obtain ⟨us, h3, h4⟩ := ih2 h2
    exact ⟨us, h1.trans h3, h4⟩
theorem paired_back {α β : Type} {F : α → β → Prop} : ∀ {xs : List α} {ys : List β}, Paired F xs ys → ∀ {i : Nat} {y : β}, ys[i]? = some y → ∃ x, xs[i]? = some x ∧ F x y
  | [], [], .nil, _, _, h => by cases h
  | _ :: _, _ :: _, .cons r _, 0, _, h => by
    obtain rfl := Option.some.inj h
    exact ⟨_, rfl, r⟩
  | _ :: _, _ :: _, .cons _ q, i + 1, _, h => paired_back (i := i) q h
def ltS (x y : Str) : Bool := decide (x.cps.toList < y.cps.toList)
def lexS (p q : Str × Str) : Bool := if p.1 = q.1 then ltS p.2 q.2 else ltS p.1 q.1
theorem str_tot {x y : Str} (h1 : ltS x y = false) (h2 : ltS y x = false) : x = y := by
  have a := of_decide_eq_false h1
  have b := of_decide_eq_false h2
  have e : x.cps.toList = y.cps.toList := List.le_antisymm (List.not_lt.mp b) (List.not_lt.mp a)
  cases x with
  | mk xc =>
    cases y with
    | mk yc =>
      have e2 : xc = yc := Array.toList_inj.mp e
      rw [e2]
theorem ltS_irr (x : Str) : ltS x x = false := decide_eq_false (List.lt_irrefl _)
theorem ltS_asym {x y : Str} (h : ltS x y = true) : ltS y x = false := decide_eq_false fun z => List.lt_irrefl _ (List.lt_trans (of_decide_eq_true h) z)
theorem ltS_tr {x y z : Str} (h : ltS x y = true) (g : ltS y z = true) : ltS x z = true := decide_eq_true (List.lt_trans (of_decide_eq_true h) (of_decide_eq_true g))
theorem ltS_neg {x y z : Str} (h1 : ltS y x = false) (h2 : ltS z y = false) : ltS z x = false := by
  cases e : ltS z x
  · rfl
  · cases e2 : ltS x y
    · have q := str_tot h1 e2
      subst q
      rw [h2] at e
      cases e
    · rw [ltS_tr e e2] at h2
      cases h2
theorem lexS_asym {p q : Str × Str} (h : lexS p q = true) : lexS q p = false := by
  unfold lexS at h ⊢
  by_cases e : p.1 = q.1
  · rw [if_pos e] at h
    rw [if_pos e.symm]
    exact ltS_asym h
  · rw [if_neg e] at h
    rw [if_neg (Ne.symm e)]
    exact ltS_asym h
theorem lexS_neg {x y z : Str × Str} (h1 : lexS y x = false) (h2 : lexS z y = false) : lexS z x = false := by
  unfold lexS at h1 h2 ⊢
  by_cases e1 : y.1 = x.1
  · rw [if_pos e1] at h1
    by_cases e2 : z.1 = y.1
    · rw [if_pos e2] at h2
      rw [if_pos (e2.trans e1)]
      exact ltS_neg h1 h2
    · rw [if_neg e2] at h2
      rw [if_neg (fun w => e2 (w.trans e1.symm)), ← e1]
      exact h2
  · rw [if_neg e1] at h1
    by_cases e2 : z.1 = y.1
    · rw [if_neg (fun w => e1 (e2.symm.trans w)), e2]
      exact h1
    · rw [if_neg e2] at h2
      have n := ltS_neg h1 h2
      by_cases e3 : z.1 = x.1
      · rw [e3] at h2
        exact absurd (str_tot h1 h2) e1
      · rw [if_neg e3]
        exact n
theorem lexS_tot {p q : Str × Str} (h1 : lexS p q = false) (h2 : lexS q p = false) : p = q := by
  unfold lexS at h1 h2
  by_cases e : p.1 = q.1
  · rw [if_pos e] at h1
    rw [if_pos e.symm] at h2
    exact Prod.ext e (str_tot h1 h2)
  · rw [if_neg e] at h1
    rw [if_neg (Ne.symm e)] at h2
    exact absurd (str_tot h1 h2) e
theorem swo_S (k : Value → Str × Str) : SrtO.Swo fun v u => lexS (k v) (k u) := ⟨fun _ _ h => lexS_asym h, fun _ _ _ h1 h2 => lexS_neg h1 h2⟩
/-- sorted ones of the same are the same -/
theorem lex_one : ∀ {xs ys : List Ed}, xs.Perm ys → xs.Pairwise (fun p q => lexS q p = false) → ys.Pairwise (fun p q => lexS q p = false) → xs = ys
  | [], ys, p, _, _ => (List.Perm.nil_eq p)
  | x :: xs, [], p, _, _ => absurd p.length_eq (by simp)
  | x :: xs, y :: ys, p, h1, h2 => by
    obtain ⟨a1, a2⟩ := List.pairwise_cons.mp h1
    obtain ⟨b1, b2⟩ := List.pairwise_cons.mp h2
    have e : x = y := by
      have mx : x ∈ y :: ys := p.mem_iff.mp List.mem_cons_self
      have my : y ∈ x :: xs := p.mem_iff.mpr List.mem_cons_self
      rcases List.mem_cons.mp mx with z | z
      · exact z
      · rcases List.mem_cons.mp my with w | w
        · exact w.symm
        · exact lexS_tot (b1 x z) (a1 y w)
    subst e
    rw [lex_one ((List.perm_cons x).mp p) a2 b2]
section
variable {prog : Program} {w : World} {A : Around} {E : Value → Shared → Prop} {s : Shared}
theorem two_cmp {vs : List Value} {k : Value → Str × Str} (all : ∀ v ∈ vs, TwoS s.heap v (k v).1 (k v).2) : SrtO.Cmp prog w A s (tuples' true) (fun p => p.1 ∈ vs) (SrtO.lt2 fun v u => lexS (k v) (k u)) := by
  intro p q mp mq
  have g1 := all _ mp
  have g2 := all _ mq
  show wpAny (model prog w) A (keyLt' (tuples' true) p.1 q.1) (fun r s' => s' = s ∧ r = lexS (k p.1) (k q.1)) (fun _ _ => False) s
  generalize k p.1 = c at g1 ⊢
  generalize k q.1 = d at g2 ⊢
  obtain ⟨x, y⟩ := c
  obtain ⟨x', y'⟩ := d
  obtain ⟨a, o, t, u, n, e, ho, hc, hd⟩ := g1
  obtain ⟨a', o', t', u', n', e', ho', hc', hd'⟩ := g2
  rw [e, e']
  refine PySem.W.kat_lt ho hd ho' hd' ?_
  show PySem.W.KatLex prog w A true (decide (2 < 2)) _ [(.str x t, .str x' t'), (.str y u, .str y' u')] 0 s
  apply PySem.W.kat_cons
  refine SeqAt.EqAt.str_str x t x' t' prog w _ _ (PySem.W.kat_go (fun e1 => ?_) fun e1 => ?_)
  · have hx : x = x' := by simpa using e1
    apply PySem.W.kat_yes
    apply PySem.W.kat_cons
    refine SeqAt.EqAt.str_str y u y' u' prog w _ _ (PySem.W.kat_go (fun e2 => ?_) fun e2 => ?_)
    · have hy : y = y' := by simpa using e2
      have ea : lexS (x, y) (x', y') = false := by
        rw [hx, hy]
        show (if x' = x' then ltS y' y' else _) = false
        rw [if_pos rfl]
        exact ltS_irr _
      exact PySem.W.kat_yes (PySem.W.kat_nil ⟨rfl, ea.symm⟩)
    · have ea : lexS (x, y) (x', y') = decide (y.cps.toList < y'.cps.toList) := by
        show (if x = x' then ltS y y' else _) = _
        rw [if_pos hx]
        rfl
      apply PySem.W.kat_no
      apply PySem.W.kat_one
      apply PyProof.Rows.lt_str
      exact (show s = s ∧ decide (y.cps.toList < y'.cps.toList) = lexS (x, y) (x', y') from ⟨rfl, ea.symm⟩)
  · have hx : ¬ x = x' := by simpa using e1
    have ea : lexS (x, y) (x', y') = decide (x.cps.toList < x'.cps.toList) := by
      show (if x = x' then _ else ltS x x') = _
      rw [if_neg hx]
      rfl
    apply PySem.W.kat_no
    exact oneLt_str ⟨rfl, ea.symm⟩
theorem two_sortableO {a : Addr} {vs : List Value} {k : Value → Str × Str} (some_ : 0 < vs.length) (all : ∀ v ∈ vs, TwoS s.heap v (k v).1 (k v).2) (own : ∀ o, s.heap.get? a = some o → o.cls ≠ .type "tuple") : SrtO.SortableO prog w A s a vs fun v u => lexS (k v) (k u) := by
  intro g keep
  have all' : ∀ v ∈ vs, TwoS g v (k v).1 (k v).2 := fun v m => (all v m).stay fun b o e c => keep b o (fun z => own o (z ▸ e) c) e
  obtain ⟨fs, h1, h2, h3⟩ := two_heads fun v m => ⟨_, _, all' v m⟩
  refine ⟨tuples' true, fun Q E q => ?_, two_cmp all'⟩
  refine PySem.W.kat_kind (T := .type "str") h1 (by omega) (fun f m => ?_) (by rfl) ?_
  · obtain ⟨x, t, rfl⟩ := h3 f m
    exact PySem.W.Looks.now
  · rw [show (Value.type "str" != Value.type "tuple") = true by decide +kernel]
    exact q
end
/-- the two texts of a tuple -/
def pk (h : Heap) (v : Value) : Str × Str := match v with
  | .ref a => match h.get? a with
    | some o => match o.data with
      | .seq xs _ => match xs.toList with
        | [.str x _, .str y _] => (x, y)
        | _ => (Str.empty, Str.empty)
      | _ => (Str.empty, Str.empty)
    | none => (Str.empty, Str.empty)
  | _ => (Str.empty, Str.empty)
theorem pk_of {h : Heap} {v : Value} {x y : Str} (t : TwoS h v x y) : pk h v = (x, y) := by
  obtain ⟨a, o, t, u, n, rfl, ho, hc, hd⟩ := t
  unfold pk
  simp only [ho, hd]
/-- sorted(xs), xs a list of pairs of texts -/
def rSortTwoO (K : PySem.W.Frag) : List V → Hp → VK → Prop := fun vs H Q => ∃ a ts es, vs = [V.ref a] ∧ SqL K H a (List.map V.ref ts) ∧ TupsAt H ts es ∧
  ∀ us fs p, us.Perm ts → fs.Perm es → TupsAt H us fs → fs.Pairwise (fun p q => lexS q p = false) → H p = none → Q (.ref p) (upd H p (.lst (List.map V.ref us)))
theorem cr_sortTwoO {X : Cx} : CallR X (.builtin "sorted") (rSortTwoO X.K) := by
  intro pins s σ H vs us Q I r h
  obtain ⟨a, ts, es, rfl, hs, ht, q⟩ := h
  obtain ⟨its, rv, hl, hz⟩ := I.list hs
  obtain ⟨u, rfl, ru⟩ := vals1 r
  obtain rfl : u = Value.ref a := ru
  have ev : its = ts.map Value.ref := by
    clear hs ht hl hz q
    induction ts generalizing its with
    | nil =>
      cases rv
      rfl
    | cons t ts ih =>
      cases rv with
      | cons r1 r2 =>
        cases r1
        rw [ih _ r2]
        rfl
  subst ev
  have twoOf : ∀ {t : Addr} {e : Ed}, H t = some (.tup [.str e.1, .str e.2]) → TwoS s.heap (.ref t) e.1 e.2 := fun {t e} at2 => by
    obtain ⟨_, its2, r2, o, ho, hc, n, hd⟩ := I.hok _ _ at2
    obtain ⟨u1, u2, rfl, ri, rj⟩ := vals2 r2
    obtain ⟨t1, rfl⟩ := ri
    obtain ⟨t2, rfl⟩ := rj
    exact ⟨t, o, t1, t2, n, rfl, ho, hc, hd⟩
  have two : ∀ t ∈ ts, ∃ e : Ed, H t = some (.tup [.str e.1, .str e.2]) ∧ TwoS s.heap (.ref t) e.1 e.2 := fun t m => by
    obtain ⟨i, hi, e⟩ := List.getElem_of_mem m
    obtain ⟨ed, _, at2⟩ := paired_at (i := i) ht (by rw [List.getElem?_eq_getElem hi, e])
    exact ⟨ed, at2, twoOf at2⟩
  have keyed : ∀ v ∈ ts.map Value.ref, TwoS s.heap v (pk s.heap v).1 (pk s.heap v).2 := fun v m => by
    obtain ⟨t, mt, rfl⟩ := List.mem_map.mp m
    obtain ⟨e, _, p⟩ := two t mt
    rw [pk_of p]
    exact p
  refine SrtO.sorted_ord (swo_S (pk s.heap)) hl.isList (by rw [← rv.length]; exact hz) (fun many h₁ b hb keep => ?_) fun out hs1 hs2 => ?_
  · refine two_sortableO (s := { s with heap := h₁ }) (by omega) (fun v m => ?_) fun o e => ?_
    · exact (keyed v m).stay fun c o e _ => (keep c o e).2
    · cases e.symm.trans hb
      exact fun c => absurd (Value.type.inj c) (by decide)
  · have hp := hs2.perm
    obtain ⟨ws, rfl, pw⟩ : ∃ ws : List Addr, out = ws.map Value.ref ∧ ws.Perm ts := by
      have isr : ∀ v ∈ out, ∃ t, v = Value.ref t := fun v m => by
        obtain ⟨t, _, e⟩ := List.mem_map.mp (hp.mem_iff.mp m)
        exact ⟨t, e.symm⟩
      let f : Value → Addr := fun v => match v with
        | .ref t => t
        | _ => 0
      have e1 : ∀ l : List Value, (∀ v ∈ l, ∃ t, v = Value.ref t) → (l.map f).map Value.ref = l := fun l hl => by
        rw [List.map_map]
        conv => rhs; rw [← List.map_id l]
        refine List.map_congr_left fun v m => ?_
        obtain ⟨t, rfl⟩ := hl v m
        rfl
      have e2 : (ts.map Value.ref).map f = ts := by
        rw [List.map_map]
        conv => rhs; rw [← List.map_id ts]
        exact List.map_congr_left fun v m => rfl
      exact ⟨out.map f, (e1 out isr).symm, by
        have z := hp.map f
        rw [e2] at z
        exact z⟩
    obtain ⟨fs, pf, tf⟩ := paired_permL pw.symm ht
    obtain ⟨n, on⟩ := sortedAll_at s.heap (ts.map Value.ref) (ws.map Value.ref).toArray
    have few : (ws.map V.ref).length ≤ sizeLine := by
      rw [List.length_map, pw.length_eq]
      rw [List.length_map] at hz
      exact hz
    have vals : Vals (ws.map V.ref) (ws.map Value.ref) := by
      have z := vals_back (us := ws.map Value.ref) fun u m => by
        obtain ⟨t, _, e⟩ := List.mem_map.mp m
        exact ⟨t, e.symm⟩
      rw [back_refs] at z
      exact z
    have order : fs.Pairwise fun p q => lexS q p = false := by
      have z : (ws.map Value.ref).Pairwise fun v u => lexS (pk s.heap u) (pk s.heap v) = false := hs1
      rw [List.pairwise_map] at z
      clear hs2 hp vals few pf on q hs1 pw
      induction tf with
      | nil => exact .nil
      | @cons t e ws fs h1 h2 ih =>
        obtain ⟨z1, z2⟩ := List.pairwise_cons.mp z
        refine List.pairwise_cons.mpr ⟨fun e2 m2 => ?_, ih z2⟩
        obtain ⟨j, hj, ej⟩ := List.getElem_of_mem m2
        obtain ⟨t2, et2, at2⟩ := paired_back (F := fun (t : Addr) (e : Ed) => H t = some (.tup [.str e.1, .str e.2])) h2 (i := j) (y := e2) (by rw [List.getElem?_eq_getElem hj, ej])
        have w := z1 t2 (List.mem_of_getElem? et2)
        rw [pk_of (twoOf h1), pk_of (twoOf at2)] at w
        exact w
    exact ⟨.ref _, upd H (s.heap.objs.size + 1) (.lst (ws.map V.ref)), I.laid (t' := s.toks) (fun _ _ => sortedAll_old) (Nat.le_succ _) ⟨few, ws.map Value.ref, n, vals, on⟩, rfl, q ws fs _ pw pf.symm tf order (I.hok.fresh (Nat.le_succ _))⟩
end Lamp
set_option maxHeartbeats 8000000
namespace Lamp
open PySem PySem.Spec PyProof.Rows L2
/-! ### House.__init__ -/
/-- the same door, perhaps turned about -/
def Nrm (e d : Ed) : Prop := d = e ∨ d = (e.2, e.1)
theorem paired_perm {α β : Type} {R : α → β → Prop} {ys ys' : List β} (p : ys.Perm ys') : ∀ {xs : List α}, Paired R xs ys → ∃ xs', xs.Perm xs' ∧ Paired R xs' ys' := by
  induction p with
  | nil =>
    intro xs h
    cases h
    exact ⟨[], .refl _, .nil⟩
  | cons y _ ih =>
    intro xs h
    cases h with
    | cons r q =>
      obtain ⟨zs, h1, h2⟩ := ih q
      exact ⟨_ :: zs, h1.cons _, .cons r h2⟩
  | swap a b l =>
    intro xs h
    cases h with
    | cons r q =>
      cases q with
      | cons r2 q2 => exact ⟨_, List.Perm.swap _ _ _, .cons r2 (.cons r q2)⟩
  | trans _ _ ih1 ih2 =>
    intro xs h
    obtain ⟨zs, h1, h2⟩ := ih1 h
    obtain ⟨us, h3, h4⟩ := ih2 h2
    exact ⟨us, h1.trans h3, h4⟩
theorem nrm_conn {es ds : List Ed} (h : ∀ d ∈ ds, ∃ e ∈ es, Nrm e d) {a b : Str} (c : Conn ds a b) : Conn es a b := by
  have st : ∀ {x y : Str}, (x, y) ∈ ds → Conn es x y := fun {x y} m => by
    obtain ⟨e, he, n⟩ := h _ m
    rcases n with rfl | n
    · exact .fwd (.refl _) he
    · obtain ⟨rfl, rfl⟩ := Prod.mk.inj n
      exact .bwd (.refl _) he
  induction c with
  | refl => exact .refl _
  | fwd _ m ih => exact ih.trans (st m)
  | bwd _ m ih => exact ih.trans (st m).symm
theorem Nrm.symm {e d : Ed} (h : Nrm e d) : Nrm d e := by
  rcases h with rfl | rfl
  · exact .inl rfl
  · exact .inr rfl
theorem nrm_r {es ds : List Ed} (h : Paired Nrm es ds) : ∀ d ∈ ds, ∃ e ∈ es, Nrm e d := by
  induction h with
  | nil => exact fun d m => by cases m
  | cons r _ ih =>
    intro d m
    rcases List.mem_cons.mp m with rfl | m
    · exact ⟨_, List.mem_cons_self, r⟩
    · obtain ⟨e, he, n⟩ := ih d m
      exact ⟨e, List.mem_cons_of_mem _ he, n⟩
theorem nrm_l {es ds : List Ed} (h : Paired Nrm es ds) : ∀ e ∈ es, ∃ d ∈ ds, Nrm d e := by
  induction h with
  | nil => exact fun d m => by cases m
  | cons r _ ih =>
    intro d m
    rcases List.mem_cons.mp m with rfl | m
    · exact ⟨_, List.mem_cons_self, r.symm⟩
    · obtain ⟨e, he, n⟩ := ih d m
      exact ⟨e, List.mem_cons_of_mem _ he, n⟩
/-- a house without rings -/
structure GoodH (rs : List Str) (ds : List Ed) : Prop where
  nodup : rs.Nodup
  ne : rs ≠ []
  len : rs.length < 60
  dlen : ds.length < 60
  ends : ∀ d ∈ ds, d.1 ∈ rs ∧ d.2 ∈ rs ∧ d.1 ≠ d.2
  join : ∀ a ∈ rs, ∀ b ∈ rs, Conn ds a b
  noring : ∀ (e : Ed) (l : List Ed), ds.Perm (e :: l) → ¬ Conn l e.1 e.2
theorem GoodH.doors {rs : List Str} {ds : List Ed} (g : GoodH rs ds) : GoodDoors rs ds := fun l1 e l2 h => by
  have m : e ∈ ds := by
    rw [h]
    simp
  obtain ⟨h1, h2, h3⟩ := g.ends e m
  refine ⟨h1, h2, h3, fun c => ?_⟩
  have p : ds.Perm (e :: (l1 ++ l2)) := by
    rw [h]
    exact List.perm_middle
  exact g.noring e _ p (c.mono fun x hx => List.mem_append_left _ hx)
/-- the same house, its rooms and doors told in another order -/
theorem GoodH.turn {rs rs' : List Str} {ds ds0 ds' : List Ed} (g : GoodH rs ds) (p : rs'.Perm rs) (q : Paired Nrm ds ds0) (r : ds'.Perm ds0) : GoodH rs' ds' := by
  have m1 : ∀ d ∈ ds', ∃ e ∈ ds, Nrm e d := fun d hd => nrm_r q d (r.mem_iff.mp hd)
  have m2 : ∀ e ∈ ds, ∃ d ∈ ds', Nrm d e := fun e he => by
    obtain ⟨d, hd, n⟩ := nrm_l q e he
    exact ⟨d, r.mem_iff.mpr hd, n⟩
  refine ⟨p.nodup_iff.mpr g.nodup, fun z => g.ne (by rw [z] at p; exact p.symm.eq_nil), by rw [p.length_eq]; exact g.len, by rw [r.length_eq, ← paired_len q]; exact g.dlen, fun d hd => ?_, fun a ha b hb => ?_, fun e l pe c => ?_⟩
  · obtain ⟨e, he, n⟩ := m1 d hd
    obtain ⟨h1, h2, h3⟩ := g.ends e he
    rcases n with rfl | rfl
    · exact ⟨p.mem_iff.mpr h1, p.mem_iff.mpr h2, h3⟩
    · exact ⟨p.mem_iff.mpr h2, p.mem_iff.mpr h1, h3.symm⟩
  · exact nrm_conn m2 (g.join a (p.mem_iff.mp ha) b (p.mem_iff.mp hb))
  · obtain ⟨us, pu, pq⟩ := paired_perm (r.symm.trans pe) q
    cases pq with
    | cons n pl =>
      have c2 := nrm_conn (nrm_r pl) c
      refine g.noring _ _ pu ?_
      rcases n with z | z
      · rw [z] at c2
        exact c2
      · rw [z] at c2
        exact c2.symm
/-- doors ascending, each with its lesser room first -/
structure Asc (ds : List Ed) : Prop where
  sort : ds.Pairwise fun p q => lexS q p = false
  less : ∀ d ∈ ds, ltS d.1 d.2 = true
theorem sorted_two {x y : Str} (h : sortedS [x, y] = true) (ne : x ≠ y) : ltS x y = true := by
  have h2 : (!ltCps y.cps.toList x.cps.toList && true) = true := h
  rw [Bool.and_true, Bool.not_eq_true', ltCps_eq] at h2
  cases e : ltS x y
  · exact absurd (str_tot e h2) ne
  · rfl
structure TxtK (mg : Str → Option Value) : Prop where
  srt : mg "sorted" = none
  tup : mg "tuple" = none
section
variable {P : Program} {w : World} {K : PySem.W.Frag} {mg : Str → Option Value} {base : Heap} {C : Addr}
/-- all but the object at x is as it was -/
structure Gx (x : Addr) (H H' : Hp) : Prop where
  s : ∀ b o, H b = some o → b ≠ x → H' b = some o
  n : ∀ b, H' b = none → H b = none
theorem Gx.of {x : Addr} {H H' : Hp} (g : Gr H H') : Gx x H H' := ⟨fun b o e _ => g.s b o e, g.n⟩
theorem Gx.trans {x : Addr} {H H1 H2 : Hp} (a : Gx x H H1) (b : Gx x H1 H2) : Gx x H H2 := ⟨fun c o e n => b.s c o (a.s c o e n) n, fun c z => a.n c (b.n c z)⟩
theorem Gx.upd {x : Addr} {H : Hp} {o : HO} : Gx x H (L2.upd H x o) := ⟨fun b u e n => by rw [upd_ne n]; exact e, fun b z => (none_upd z).2⟩
def spInit (C : Addr) : Sp := fun vs H Q _ => ∃ (x dx a b : Addr) (rs : List Str) (ts : List Addr) (es : List Ed), vs = [.ref x, .ref a, .ref b] ∧ H x = some (.ins C dx []) ∧ H a = some (.lst (rs.map V.str)) ∧ H b = some (.lst (ts.map V.ref)) ∧ TupsAt H ts es ∧ GoodH rs es ∧ (∀ r ∈ rs, nameOk r = true) ∧
  ∀ H' rs' ds, rs'.Perm rs → sortedS rs' = true → GoodH rs' ds → (∀ e ∈ es, ∃ d ∈ ds, Nrm d e) → Asc ds → (∀ d ∈ ds, ∃ e ∈ es, Nrm e d) → HouseAt H' C x rs' ds → Gx x H H' → Q .non H'
abbrev NIn : List Str := ["self", "rooms", "doors", "index", "parted", "door"]
theorem scIn : FnScope NIn ["self", "rooms", "doors"] (defScope m_House_init) := ⟨rfl, rfl, rfl, by decide +kernel, rfl, by decide +kernel, by decide +kernel⟩
/-- tuple(x), x a list -/
abbrev rTupOf (K : PySem.W.Frag) : List V → Hp → VK → Prop := fun xs H Q => ∃ p ys, xs = [.ref p] ∧ ((SqL K H p ys ∧ ∀ l, H l = none → Q (.ref l) (upd H l (.tup ys))) ∨ (SqT K H p ys ∧ Q (.ref p) H))
theorem perm_two {x y : Str} : ∀ {ys : List Str}, ys.Perm [x, y] → ys = [x, y] ∨ ys = [y, x] := fun {ys} p => by
  have l := p.length_eq
  match ys, l with
  | [a, b], _ =>
    have ma : a ∈ [x, y] := p.mem_iff.mp List.mem_cons_self
    rcases List.mem_cons.mp ma with rfl | ma
    · have q := p.cons_inv
      exact .inl (by rw [List.perm_singleton.mp q])
    · obtain rfl := List.mem_singleton.mp ma
      have q : [a, b].Perm [a, x] := p.trans (List.Perm.swap _ _ _)
      exact .inr (by rw [List.perm_singleton.mp q.cons_inv])
theorem ok_init {f : Addr} {fd : FuncData} (F : Fun K "__init__" "House.__init__" m_House_init f fd) (T : TxtK mg) (c : ClsH K C) (RO : Stands P w K mg base 2 "rooms_fault" ["rooms"] (spRoomsF K)) (DO : Stands P w K mg base 3 "doors_fault" ["rooms", "doors"] (spDoors K)) (NO : Stands P w K mg base 1 "rooms_by_doors" ["rooms", "doors"] (spNearBy K)) (FO : Stands P w K mg base 3 "first_parted" ["house", "some"] (spFirst K C)) :
    FnOk P w K mg base CX0 4 f fd ["self", "rooms", "doors"] (spInit C) := by
  obtain ⟨fr, dr, Gr', mr, kr, br⟩ := RO
  obtain ⟨fo, do_, Go, mo, ko, bo⟩ := DO
  obtain ⟨fn, dn, Gn, mn, kn, bn⟩ := NO
  obtain ⟨ff, df, Gf, mf, kf, bf⟩ := FO
  refine F.ok scIn (fun vs H Q E h => ?_) (fun cdv A outer s H vs Q E hr h => ?_)
  · obtain ⟨x, dx, a, b, rs, ts, es, rfl, _⟩ := h
    rfl
  · obtain ⟨x, dx, a, b, rs, ts, es, rfl, hx, ha, hb, ht, gd, ok, k⟩ := h
    refine ⟨_, pss_cons (ps_set (i := 3) scIn.nd rfl (Or.inl rfl) (pe_call Gr' (hr.mono (by decide)) (by rfl) mr kr br .nil pass0 (pa_cons (pv 1) pa_nil)))
      (pss_cons (ps_if (pt_cmp (pc_notN (pv 3)) (by rfl)) pss_dead pss_nil)
      (pss_cons (ps_set (i := 3) scIn.nd rfl (Or.inl rfl) (pe_call Go hr (by rfl) mo ko bo .nil pass0 (pa_cons (pv 1) (pa_cons (pv 2) pa_nil))))
      (pss_cons (ps_if (pt_cmp (pc_notN (pv 3)) (by rfl)) pss_dead pss_nil)
      (pss_cons (ps_fld (pv 0) (pe_callB cr_sortedS (by rfl) T.srt PyProof.Rows.boot_sorted (pa_cons (pv 1) pa_nil)) (by rfl))
      (pss_cons (ps_fld (pv 0) (pe_callB cr_sortTwoO (by rfl) T.srt PyProof.Rows.boot_sorted (pa_cons
          (pe_lc (te := tCB (rTupOf K) (tCons (tCB (rSortTup K) (tCons (tVar 5) tNil)) tNil)) (own := [("door", 5)]) (g := gName 5) (tt := tYes) rfl scIn.nd (pi_list (pv 2)) (blkOk_by (N := NIn) (sc := defScope m_House_init) (by decide +kernel))
            (fun _ _ _ _ _ => pg_name (i := 5) scIn.nd rfl (Or.inl rfl)) (fun _ _ _ _ _ => pts_nil)
            (fun _ _ _ _ _ => by exact (pe_callTy call_tuple_of (by rfl) T.tup (by decide +kernel) (pa_cons (pe_callB cr_sortTup (by rfl) T.srt PyProof.Rows.boot_sorted (pa_cons (pv 5) pa_nil)) pa_nil)))) pa_nil)) (by rfl))
      (pss_cons (ps_fld (pv 0) (pe_call Gn (hr.mono (by decide)) (by rfl) mn kn bn .nil pass0 (pa_cons (pe_fld (f := "_rooms") (pv 0) (by rfl)) (pa_cons (pe_fld (f := "_doors") (pv 0) (by rfl)) pa_nil))) (by rfl))
      (pss_cons (ps_set (i := 4) scIn.nd rfl (Or.inl rfl) (pe_call Gf hr (by rfl) mf kf bf .nil pass0 (pa_cons (pv 0) (pa_cons (pe_fld (f := "_rooms") (pv 0) (by rfl)) pa_nil))))
      (pss_one (ps_if (pt_cmp (pc_notN (pv 4)) (by rfl)) pss_dead pss_nil))))))))), ?_⟩
    refine ⟨_, rfl, a, rs, rfl, .inl (.inl ha), fun H' s => .base (.lst (s _ _ ha)), gd.nodup, gd.ne, Nat.lt_trans gd.len (by decide), ok, fun H1 s1 n1 => ⟨_, rfl, _, rfl, iteF2 (by simp) ?_⟩⟩
    refine ⟨_, rfl, _, rfl, a, b, rs, ts, es, rfl, .inl (.inl (s1 _ _ ha)), .inl (.inl (s1 _ _ hb)), fun H' s => .base (.lst (s _ _ (s1 _ _ hb))), Paired.imp (fun _ _ e => s1 _ _ e) ht, gd.nodup, Nat.lt_trans gd.len (by decide), gd.doors, fun H2 s2 n2 => ⟨_, rfl, _, rfl, iteF2 (by simp) ?_⟩⟩
    have g2 : Gr H H2 := (Gr.mk s1 n1).trans ⟨s2, n2⟩
    refine ⟨_, rfl, a, rs, rfl, .inl (.inl (g2.s _ _ ha)), Nat.lt_trans gd.len (by decide), fun rs' ra prm srt nra => ?_⟩
    have hx2 := g2.s _ _ hx
    have xra : x ≠ ra := ne_of_none hx2 nra
    have RN : H ra = none := g2.n _ nra
    refine ⟨_, rfl, x, C, dx, [], rfl, (by rw [upd_ne xra]; exact hx2), c.cls, c.nR, (by decide), ?_⟩
    rw [show putF "_rooms" (V.ref ra) [] = ([("_rooms", V.ref ra)] : List (Str × V)) from rfl]
    generalize eH3 : upd (upd H2 ra (.lst (rs'.map V.str))) x (.ins C dx [("_rooms", .ref ra)]) = H3
    have g3 : Gx x H H3 := by
      rw [← eH3]
      exact (Gx.of (g2.trans (Gr.upd nra))).trans Gx.upd
    have hx3 : H3 x = some (.ins C dx [("_rooms", .ref ra)]) := by
      rw [← eH3]
      exact upd_same
    have hr3 : H3 ra = some (.lst (rs'.map V.str)) := by
      rw [← eH3, upd_ne xra.symm, upd_same]
    have bx : b ≠ x := ne_of hb hx (by intro z; cases z)
    have tx : ∀ {t : Addr} {e : Ed}, H t = some (.tup [.str e.1, .str e.2]) → t ≠ x := fun h => ne_of h hx (by intro z; cases z)
    refine ⟨_, rfl, b, rfl, ⟨_, .inl (.inl (g3.s _ _ hb bx))⟩, fun D hD => ?_⟩
    refine lc_it (walk_list (xs := ts.map V.ref)) (fun j H' => ∃ (us : List Addr) (ds : List Ed), H' D = some (.lst (us.map V.ref)) ∧ TupsAt H' us ds ∧ Paired Nrm (es.take j) ds ∧ Gr H3 H' ∧ ∀ d ∈ ds, ltS d.1 d.2 = true) ⟨[], [], upd_same, .nil, .nil, Gr.upd hD, fun d h => by cases h⟩ (fun j H' _ q => ?_) ?_ ?_
    · obtain ⟨us, ds, q1, q2, q3, q4, _⟩ := q
      exact .inl (.inl (q4.s _ _ (g3.s _ _ hb bx)))
    · rintro j v H' H'' hj ⟨us, ds, q1, q2, q3, q4, q5⟩ ⟨rfl, hv⟩
      rw [List.getElem?_map] at hv
      obtain ⟨t, et, rfl⟩ := Option.map_eq_some_iff.mp hv
      obtain ⟨e, ee, te⟩ := paired_at ht et
      have t3 := q4.s _ _ (g3.s _ _ te (tx te))
      refine ⟨rfl, _, rfl, t, [e.1, e.2], rfl, .inl (.inl t3), (by show 2 < 64; decide), fun ys p py sy np => ?_⟩
      refine ⟨p, _, rfl, .inl ⟨.inl (.inl upd_same), fun l nl => ?_⟩⟩
      have g5 : Gr H'' (upd (upd H'' p (.lst (ys.map V.str))) l (.tup (ys.map V.str))) := (Gr.upd np).trans (Gr.upd nl)
      have ne := (gd.ends e (List.mem_of_getElem? ee)).2.2
      obtain ⟨dd, ed, nd, ls⟩ : ∃ d : Ed, ys.map V.str = [.str d.1, .str d.2] ∧ Nrm e d ∧ ltS d.1 d.2 = true := by
        rcases perm_two py with rfl | rfl
        · exact ⟨e, rfl, .inl rfl, sorted_two sy ne⟩
        · exact ⟨(e.2, e.1), rfl, .inr rfl, sorted_two sy ne.symm⟩
      rw [ed] at g5 ⊢
      have DN : H3 D = none := hD
      have q1' := g5.s _ _ q1
      have tk : es.take (j + 1) = es.take j ++ [e] := by
        rw [List.take_add_one, ee]
        rfl
      refine ⟨us.map V.ref, q1', ?_, us ++ [l], ds ++ [dd], ?_, ?_, ?_, ?_, fun d hd => ?_⟩
      · rw [List.length_map, paired_len q2, ← paired_len q3, List.length_take]
        exact Nat.lt_of_le_of_lt (Nat.min_le_right _ _) (Nat.lt_trans gd.dlen (by decide))
      · rw [upd_same, List.map_append]
        rfl
      · have r1 := paired_snoc (R := fun (t : Addr) (e : Ed) => (upd (upd H'' p (.lst [V.str dd.1, V.str dd.2])) l (.tup [V.str dd.1, V.str dd.2])) t = some (.tup [.str e.1, .str e.2])) (a := l) (b := dd) upd_same (Paired.imp (fun _ _ e => g5.s _ _ e) q2)
        refine Paired.imp (fun t e h => ?_) r1
        have nt : t ≠ D := ne_of h q1' (by intro z; cases z)
        rw [upd_ne nt]
        exact h
      · rw [tk]
        exact paired_snoc nd q3
      · exact (q4.trans g5).put DN
      · rcases List.mem_append.mp hd with hd | hd
        · exact q5 d hd
        · rw [List.mem_singleton.mp hd]
          exact ls
    · rintro H4 ⟨us, ds, q1, q2, q3, q4, ql⟩
      rw [List.length_map, paired_len ht, List.take_length] at q3
      refine ⟨D, us, ds, rfl, SqL.of q1, q2, fun us' ds' da pu pd0 q5 ord nda => ?_⟩
      have pd := pd0.symm
      have asc : Asc ds' := ⟨ord, fun d hd => ql d (pd.mem_iff.mpr hd)⟩
      have gd' : GoodH rs' ds' := gd.turn prm q3 pd.symm
      have hx4 := q4.s _ _ hx3
      have xda : x ≠ da := ne_of_none hx4 nda
      refine ⟨_, rfl, x, C, dx, _, rfl, (by rw [upd_ne xda]; exact hx4), c.cls, c.nD, (by show 1 < 1000; decide), ?_⟩
      rw [show putF "_doors" (V.ref da) ([("_rooms", V.ref ra)] : List (Str × V)) = ([("_rooms", V.ref ra), ("_doors", V.ref da)] : List (Str × V)) from rfl]
      generalize eH5 : upd (upd H4 da (.lst (us'.map V.ref))) x (.ins C dx [("_rooms", .ref ra), ("_doors", .ref da)]) = H5
      have g5 : Gx x H4 H5 := by
        rw [← eH5]
        exact (Gx.of (Gr.upd nda)).trans Gx.upd
      have g35 : Gx x H3 H5 := (Gx.of q4).trans g5
      have hx5 : H5 x = some (.ins C dx [("_rooms", .ref ra), ("_doors", .ref da)]) := by
        rw [← eH5]
        exact upd_same
      have hr5 : H5 ra = some (.lst (rs'.map V.str)) := g35.s _ _ hr3 xra.symm
      have hd5 : H5 da = some (.lst (us'.map V.ref)) := by
        rw [← eH5, upd_ne xda.symm, upd_same]
      have ht5 : TupsAt H5 us' ds' := Paired.imp (fun t e h => g5.s _ _ h (ne_of h hx4 (by intro z; cases z))) q5
      refine ⟨_, rfl, x, C, dx, _, _, rfl, hx5, c.cls, c.nR, by rfl, _, rfl, x, C, dx, _, _, rfl, hx5, c.cls, c.nD, by rfl, ra, da, rs', us', ds', rfl, .inl (.inl hr5), .inl (.inl hd5), ht5, gd'.nodup, Nat.lt_trans gd'.len (by decide), Nat.lt_trans gd'.dlen (by decide), gd'.ends, fun H6 na hna s6 n6 nna => ?_⟩
      have hx6 := s6 _ _ hx5
      refine ⟨_, rfl, x, C, dx, _, rfl, hx6, c.cls, c.nN, (by show 2 < 1000; decide), ?_⟩
      rw [show putF "_near" (V.ref na) ([("_rooms", V.ref ra), ("_doors", V.ref da)] : List (Str × V)) = ([("_rooms", V.ref ra), ("_doors", V.ref da), ("_near", V.ref na)] : List (Str × V)) from rfl]
      generalize eH7 : upd H6 x (.ins C dx [("_rooms", .ref ra), ("_doors", .ref da), ("_near", .ref na)]) = H7
      have g7 : Gx x H6 H7 := by
        rw [← eH7]
        exact Gx.upd
      have g57 : Gx x H5 H7 := (Gx.of ⟨s6, n6⟩).trans g7
      have hx7 : H7 x = some (.ins C dx [("_rooms", .ref ra), ("_doors", .ref da), ("_near", .ref na)]) := by
        rw [← eH7]
        exact upd_same
      have hr7 : H7 ra = some (.lst (rs'.map V.str)) := g57.s _ _ hr5 xra.symm
      have hh : HouseAt H7 C x rs' ds' := by
        obtain ⟨nf, n1', n2'⟩ := hna
        have nx : ∀ {y : Addr} {o : HO}, H6 y = some o → (∀ C' dx' fs, o ≠ .ins C' dx' fs) → H7 y = some o := fun {y o} e no => g7.s _ _ e (fun z => by
          rw [z, hx6] at e
          exact no _ _ _ (Option.some.inj e).symm)
        exact ⟨dx, ra, da, na, us', hx7, hr7, g57.s _ _ hd5 xda.symm, Paired.imp (fun t e h => g57.s _ _ h (ne_of h hx5 (by intro z; cases z))) ht5, nf, nx n1' (fun _ _ _ z => by cases z), fun r hr => nx (n2' r hr) (fun _ _ _ z => by cases z)⟩
      refine ⟨_, rfl, _, rfl, x, C, dx, _, _, rfl, hx7, c.cls, c.nR, by rfl, x, ra, rs', ds', rfl, hh, .inl (.inl hr7), gd'.ne, gd'.nodup, gd'.len, gd'.ends, Nat.lt_trans gd'.dlen (by decide), gd'.join, fun H8 s8 n8 => ⟨_, rfl, _, rfl, iteF2 (by simp) ?_⟩⟩
      exact k H8 rs' ds' prm srt gd' (fun e he => let ⟨d, hd, n⟩ := nrm_l q3 e he; ⟨d, pd.mem_iff.mp hd, n⟩) asc (fun d hd => nrm_r q3 d (pd.mem_iff.mpr hd)) (hh.same s8) ((g3.trans g35).trans (g57.trans (Gx.of ⟨s8, n8⟩)))
end
end Lamp
set_option maxHeartbeats 4000000
namespace Lamp
open PySem PySem.Spec PyProof.Rows
section
variable {X : L2.Cx}
open L2
/-- one turn of a comprehension that fills the dict at D, whose keys are tuples -/
abbrev TTurn (g : TG) (tt : TT) (tk tv : TE) (ss : List Nat) (τ : L2.St) (D : Addr) (N : Hp → Prop) (z : V) (Hb : Hp) : Prop :=
  g z (wipe τ ss) Hb fun τ2 Hc => wipe τ2 ss = wipe τ ss ∧ tt τ2 Hc fun yes Hd => if yes = true then tk τ2 Hd fun kx He => tv τ2 He fun vx Hf => ∃ es ke q, kx = .ref q ∧ Hf q = some (.tup (ke.map kV)) ∧ Hf D = some (.dT es) ∧ es.length < sizeLine ∧ N (upd Hf D (.dT (putK es ke vx))) else N Hd
/-- {k: v for ..}, keys tuples -/
def tDcT (wi : TI) (g : TG) (tt : TT) (tk tv : TE) (ss : List Nat) : TE := fun τ Ha Q => wi τ Ha fun J Hb => ∀ D, Hb D = none →
  ∃ R : Nat → Nat → Hp → Prop, (∃ k, R 0 k (upd Hb D (.dT []))) ∧ ∀ i k Hc, R i k Hc → (J.stop i Hc ∧ Q (.ref D) Hc) ∨ (J.go i Hc ∧ ∃ N : Hp → Prop, (∀ Hd, N Hd → ∃ k', k' < k ∧ R (i + 1) k' Hd) ∧ ∀ z Hd, J.yld i Hc z Hd → TTurn g tt tk tv ss τ D N z Hd)
/-- a key goes into a dict of tuple keys, by a comprehension -/
theorem put_tupleKey {pins : List (Addr × Obj)} {τ : L2.St} {Ha : Hp} {sh : Shared} {E : Value → Shared → Prop} {D q : Addr} {es : List (List Key × V)} {ke : List Key} {vx : V} {r : Value} {Q : Unit → Shared → Prop} (hu : X.A.units + 1 < cLine) (I : Inv X pins τ Ha sh)
    (atD : Ha D = some (.dT es)) (atq : Ha q = some (.tup (ke.map kV))) (small : es.length < sizeLine) (rv : RelV vx r) (k : ∀ sh', Inv X pins τ (upd Ha D (.dT (putK es ke vx))) sh' → Q () sh') : wpAny (model X.prog X.w) X.A (dictSet D (.ref q) r) Q E sh := by
  obtain ⟨z1, notSys, xs, rel, dd⟩ := dt_of I.hok atD
  have z2 : xs.length ≤ sizeLine := by
    rw [← Paired.length rel]
    exact z1
  have z3 : (putK es ke vx).length ≤ sizeLine := by
    have := length_putK es ke vx
    omega
  refine wpAny_dictSet_heap (hsz := z2) (show X.A.units < cLine by omega) (key_of I.hok atq) dd fun g dd' sb => k _ ?_
  obtain ⟨od, e1, e2, h1, h2, h3, h4, _, h5⟩ := dd'
  refine d_write I (by rw [atD]; exact True.intro) sb ⟨od, h1⟩ ⟨z3, notSys, _, (rel.put ke atq rv).keeps fun c ys ec => ?_, od, e1, e2, h1, h2, h3, h4, h5⟩
  have ne : c ≠ D := ne_of ec atD (fun z => nomatch z)
  rw [upd_ne ne]
  exact ec
theorem dcT_run {pins : List (Addr × Obj)} {sh : Shared} {τ : L2.St} {Ha : Hp} {Q : VK} {ke ve tg iter : Expr} {ifs : List Expr} {sc : Scope} {own : List (Str × Nat)} {dpos fpos : Pos} {wi : TI} {g : TG} {tt : TT} {tk tv : TE} {use : Option (Value → Sem Unit)} {Qf : Value → Shared → Prop}
    (calm : X.calm = true) (nd : X.N.Nodup) (hu : X.A.units + 1 < cLine) (I : Inv X pins τ Ha sh) (pit : PI X tg iter wi) (blk : BlkOk X.N X.env.scope sc own)
    (pg : InBlk X sc fun Y => PG Y tg g) (pt : InBlk X sc fun Y => PTs Y ifs tt) (pk : InBlk X sc fun Y => PE Y ke tk) (pv : InBlk X sc fun Y => PE Y ve tv) (fold : ∀ z, foldedSetIterable iter X.env z = pure z)
    (h : tDcT wi g tt tk tv (own.map (·.2)) τ Ha Q)
    (fin : ∀ D B sh' m Hb, Inv X pins τ Hb sh' → Q (.ref D) Hb → sh'.heap.Ns B m → FpOk X pins Hb B → compPost (model X.prog X.w) X.A X.xe use Qf (.ref D) B (.ok .next) sh') :
    wpAny (model X.prog X.w) X.A (comprehension (.DictComp ke ve [⟨tg, iter, ifs, 0⟩] sc dpos) sc X.env fpos newDict false (eval iter X.env) use) Qf X.xe sh := by
  have cells : ∀ y ∈ sc.names, y.2 = .free → ∃ c, X.env.cells.lookup y.1 = some c := fun y hy e =>
    (blk.free y hy e).elim (fun k => I.ok.has _ (.inl k)) fun k => I.ok.has _ (.inr k)
  refine wpAny_comprehension_free (use := use) rfl fold (closure_ok cells) blk.kind (fun y hy e => by rw [blk.uniq y hy, e]) ?_
  refine thn (pit.run pins sh τ Ha _ I h) fun _ sh1 w1 => thn w1 fun _ sh2 w2 => ?_
  obtain ⟨it, fp, tn, J, H2, e, I2, TT, started, clear, q⟩ := w2
  subst e
  refine wpAny_newObj_type
    (newEnv_comp ?_)
  generalize eD : sh2.heap.objs.size = D
  have freeD : H2 D = none := I2.hok.fresh (Nat.le_of_eq eD)
  obtain ⟨R, ⟨k0, r0⟩, turn⟩ := q D freeD
  generalize eS : ({ sh2 with heap := sh2.heap.push { cls := .type "dict", data := .dict #[] } } : Shared) = sh3
  have heap3 : sh3.heap = sh2.heap.push { cls := .type "dict", data := .dict #[] } := by rw [← eS]
  have I3 : Inv X pins τ (upd H2 D (.dT [])) sh3 := by
    rw [← eS]
    refine I2.laid (t' := sh2.toks) (fun b o z => Heap.get?_push_of_some _ z) (Nat.le_of_eq eD) ?_
    rw [← eD]
    exact dt_empty sh2.heap I2.big
  have clear3 : ∀ b ∈ fp, FpOk X pins (upd H2 D (.dT [])) b ∧ b < sh3.heap.objs.size := fun b hb => by
    obtain ⟨_, z, _⟩ := TT.obj _ _ started b hb
    have lt := Heap.lt_size z
    have ne : b ≠ D := by
      rw [← eD]
      exact Nat.ne_of_lt lt
    refine ⟨⟨by rw [upd_ne ne]; exact (clear b hb).1, (clear b hb).2⟩, ?_⟩
    rw [heap3, Heap.size_push]
    exact Nat.lt_succ_of_lt lt
  have started3 : tn 0 sh3.heap := TT.keep _ _ _ started fun b _ o z => by
    rw [heap3]
    exact Heap.get?_push_of_some _ z
  have I4 := block_start I3 blk nd clear3
  have PGb := pg sh3 (upd H2 D (.dT [])) sh3.heap.objs.size (cellsFrom (sh3.heap.objs.size + 1) sc.names (cloFrom X.env.cells sc.names [])) fp
  have PTb := pt sh3 (upd H2 D (.dT [])) sh3.heap.objs.size (cellsFrom (sh3.heap.objs.size + 1) sc.names (cloFrom X.env.cells sc.names [])) fp
  have PKb := pk sh3 (upd H2 D (.dT [])) sh3.heap.objs.size (cellsFrom (sh3.heap.objs.size + 1) sc.names (cloFrom X.env.cells sc.names [])) fp
  have PVb := pv sh3 (upd H2 D (.dT [])) sh3.heap.objs.size (cellsFrom (sh3.heap.objs.size + 1) sc.names (cloFrom X.env.cells sc.names [])) fp
  show codeAny _ _ (.compStart (.DictComp ke ve [⟨tg, iter, ifs, 0⟩] sc dpos) 0 (.ref it) (.ref D) (compEnvC sc (cellsFrom (sh3.heap.objs.size + 1) sc.names (cloFrom X.env.cells sc.names [])) sh3.heap.objs.size X.env))
    (compPost (model X.prog X.w) X.A X.xe use Qf (.ref D) sh3.heap.objs.size) { sh3 with heap := pushCells (sh3.heap.push { cls := .type "dict", data := .dict #[] }) sc.names }
  have none3 : ∀ b ∈ fp, (upd H2 D (.dT [])) b = none := fun b hb => (clear3 b hb).1.1
  generalize eE : compEnvC sc (cellsFrom (sh3.heap.objs.size + 1) sc.names (cloFrom X.env.cells sc.names [])) sh3.heap.objs.size X.env = en at I4 PGb PTb PKb PVb ⊢
  have locE : en.locals = sh3.heap.objs.size := by
    subst eE
    rfl
  generalize eH3 : upd H2 D (.dT []) = H3 at I3 I4 PGb PTb PKb PVb r0 none3 clear3
  generalize eS4 : ({ sh3 with heap := pushCells (sh3.heap.push { cls := .type "dict", data := .dict #[] }) sc.names } : Shared) = sh4 at I4 ⊢
  have started4 : tn 0 sh4.heap := TT.keep _ _ _ started3 fun b _ o z => by
    rw [← eS4]
    exact pushCells_keeps _ _ _ _ (Heap.get?_push_of_some _ z)
  have okAll : ∀ {τ' : L2.St} {H' : Hp} {sh' : Shared}, Inv (X.blk sh3 H3 sc en fp) [] τ' H' sh' → (∀ b ∈ fp, H' b = none) → ∀ b ∈ fp, FpOk (X.blk sh3 H3 sc en fp) [] H' b := fun {_ _ _} J' n b hb =>
    ⟨n b hb, (J'.ok.exf b hb).1, J'.ok.exfs b hb, .inl hb, fun x c z => (J'.ok.exf b hb).2 x c z, fun p hp => absurd (show p ∈ ([] : List (Addr × Obj)) ++ [] from hp) (by simp)⟩
  have body : codeAny (model X.prog X.w) X.A (.compLoop (.DictComp ke ve [⟨tg, iter, ifs, 0⟩] sc dpos) 0 (.ref it) (.ref D) en) (compPost (model X.prog X.w) X.A X.xe use Qf (.ref D) sh3.heap.objs.size) sh4 := by
    refine compLoop_anyD (fun n sh' => ∃ i Hc, Inv (X.blk sh3 H3 sc en fp) [] (wipe τ (own.map (·.2))) Hc sh' ∧ tn i sh'.heap ∧ (∀ b ∈ fp, Hc b = none) ∧ R i n Hc) ?_ k0 ⟨0, H3, I4, started4, none3, r0⟩
    rintro n sh5 ⟨i, H5, I5, started5, none5, r5⟩
    rcases turn i n H5 r5 with ⟨stop, qf⟩ | ⟨go, N, lessN, step⟩
    · refine thnF (TT.done (X.blk sh3 H3 sc en fp) rfl rfl rfl calm i [] sh5 _ H5 (fun _ _ => False) I5 (okAll I5 none5) started5 stop) fun got sh6 ⟨e6, I6⟩ => ?_
      subst e6
      have I7 : Inv X pins τ H5 sh6 := I3.call' (ch := fp) I6.os I6.base I6.hok I6.bare fun b hb =>
        let z := (clear3 b hb).1.2
        ⟨z.2.2.1, z.1, z.2.2.2.1, z.2.2.2.2⟩
      have freeB : H5 sh3.heap.objs.size = none := by
        rw [← locE]
        exact I6.free
      obtain ⟨m, hn, _⟩ := I6.loc
      replace hn : sh6.heap.Ns en.locals m := hn
      rw [locE] at hn
      exact fin D sh3.heap.objs.size sh6 m H5 I7 qf hn (I3.fpOk (Nat.le_refl _) freeB)
    · refine thnF (TT.item (X.blk sh3 H3 sc en fp) rfl rfl rfl calm i [] sh5 _ H5 (fun _ _ => False) I5 (okAll I5 none5) started5 go) fun got sh6 ⟨u, e6, w6⟩ => ?_
      subst e6
      refine thnF w6 fun _ sh7 ⟨x, H7, I7, r7, y7, started7, none7⟩ => ?_
      have I7p := I7.pinned (okAll I7 none7) (TT.obj _ _ started7)
      refine thnF (PGb.run _ sh7 _ H7 x u _ I7p r7 (step x H7 y7)) fun _ sh8 ⟨τ8, H8, I8, wiped8, q8⟩ => ?_
      refine thnF (PTb.run _ sh8 τ8 H8 _ I8 q8) fun yes sh9 ⟨H9, I9, q9⟩ => ?_
      have next : ∀ {sh' : Shared} {H' : Hp}, Inv (X.blk sh3 H3 sc en fp) ([] ++ pinsAt fp sh7.heap) τ8 H' sh' → N H' →
          ∃ m, m < n ∧ ∃ i Hc, Inv (X.blk sh3 H3 sc en fp) [] (wipe τ (own.map (·.2))) Hc sh' ∧ tn i sh'.heap ∧ (∀ b ∈ fp, Hc b = none) ∧ R i m Hc := fun {sh' H'} J' nH => by
        obtain ⟨k', lt, r'⟩ := lessN H' nH
        have held : ∀ b ∈ fp, ∀ o, sh7.heap.get? b = some o → sh'.heap.get? b = some o ∧ H' b = none := fun b hb o z =>
          let y := J'.pin (b, o) (List.mem_append_right _ (List.mem_append_right _ (mem_pinsAt hb z)))
          ⟨y.1, y.2.1⟩
        have sameLen : (wipe τ (own.map (·.2))).length = τ8.length := by
          rw [← wiped8, wipe_length]
        refine ⟨k', lt, i + 1, H', (J'.unpinned (pins := [])).weak sameLen (fun j v z => ?_), TT.keep _ _ _ started7 fun b hb o z => (held b hb o z).1, fun b hb => ?_, r'⟩
        · rw [← wiped8] at z
          exact (wipe_some z).1
        · obtain ⟨o, z, _⟩ := TT.obj _ _ started7 b hb
          exact (held b hb o z).2
      cases yes with
      | false =>
        simp only [Bool.false_eq_true, if_false] at q9 ⊢
        exact next I9 q9
      | true =>
        simp only [if_true] at q9 ⊢
        refine thnF (PKb.run _ sh9 τ8 H9 _ I9 q9) fun zk sh10 ⟨yk, H10, I10, r10, q10⟩ => ?_
        refine thnF (PVb.run _ sh10 τ8 H10 _ I10 q10) fun zv sh11 ⟨yv, H11, I11, r11, es, kk, qa, ek, aq, aD, few, nH⟩ => ?_
        subst ek
        obtain rfl : zk = Value.ref qa := r10
        exact put_tupleKey (X := X.blk sh3 H3 sc en fp) hu I11 aD aq few r11 fun sh12 I12 => next I12 nH
  exact codeAny_compStart_dict body (TT.self X.A 0 _ _ _ started4 body)
/-- y = {k: v for ..}, keys tuples, y a local name -/
theorem ps_setDcT {i : Nat} {y : Str} {yp dpos spos : Pos} {ke ve tg iter : Expr} {ifs : List Expr} {sc : Scope} {own : List (Str × Nat)} {wi : TI} {g : TG} {tt : TT} {tk tv : TE}
    (calm : X.calm = true) (nd : X.N.Nodup) (hu : X.A.units + 1 < cLine) (at_ : X.N[i]? = some y) (loc : X.env.scope.names.lookup y = some .local)
    (sw : swapsWith (.DictComp ke ve [⟨tg, iter, ifs, 0⟩] sc dpos) (some (.Name y yp)) spos.line X.env = pure true) (pit : PI X tg iter wi) (blk : BlkOk X.N X.env.scope sc own)
    (pg : InBlk X sc fun Y => PG Y tg g) (pt : InBlk X sc fun Y => PTs Y ifs tt) (pk : InBlk X sc fun Y => PE Y ke tk) (pv : InBlk X sc fun Y => PE Y ve tv) (fold : ∀ z, foldedSetIterable iter X.env z = pure z := by intro _; rfl) :
    PS X (.Assign [.Name y yp] (.DictComp ke ve [⟨tg, iter, ifs, 0⟩] sc dpos) spos) (tAsg (tDcT wi g tt tk tv (own.map (·.2))) (gName i)) := by
  constructor
  intro pins s σ H D I h
  rw [exec_Assign_Name_used (hs := sw)]
  apply wpAny_bind; apply wpAny_standAt; apply wpAny_bind
  show wpAny _ X.A (do let _ ← comprehension (.DictComp ke ve [⟨tg, iter, ifs, 0⟩] sc dpos) sc X.env (firstIterPos [⟨tg, iter, ifs, 0⟩] dpos) newDict false (eval iter X.env) (some (assign (.Name y yp) X.env))) _ _ s
  have q0 : tDcT wi g tt tk tv (own.map (·.2)) σ H (fun x H1 => gName i x σ H1 D.nx) := h
  have core := dcT_run (Qf := fun _ s' => SP X pins D .next s') (use := some (assign (.Name y yp) X.env)) (dpos := dpos) (fpos := firstIterPos [⟨tg, iter, ifs, 0⟩] dpos) calm nd hu I pit blk pg pt pk pv fold q0 (fun L B s' m H' I' q hn f => by
    show wpAny _ _ (assign (.Name y yp) X.env (.ref L)) _ _ _
    obtain ⟨f0, f1, _, f3, f4, f5⟩ := f
    refine wpAny_assign_Name (store_ok2 (v := V.ref L) I' nd at_ (.inl loc) rfl (fun s2 I2 z => ?_) (.inr loc))
    obtain ⟨a, sb, ha⟩ := z
    have ne : B ≠ a := by
      rcases ha with e | e
      · exact e ▸ f1
      · exact fun c => f4 y a e c.symm
    exact ⟨m, hn.sameBut sb ne, fun h3 sb3 => ⟨_, H', I2.turned (t' := s2.toks) (fun b o hb e => (sb3.2 b hb).trans e) f0 f1 f3 f4 f5, q⟩⟩)
  exact wpAny_bind (thn core fun _ s' hq => wpAny_pure (wpAny_pure hq))
/-- a dict comprehension with tuple keys over what is walked -/
theorem dcT_it {J : It} {n : Nat} {G : Hp → Prop} {Y : Nat → Hp → V → Hp → Prop} {g : TG} {tt : TT} {tk tv : TE} {ss : List Nat} {τ : L2.St} {Ha : Hp} {D : Addr} (w : Walk J n G Y) {Qd : Hp → Prop} (Pv : Nat → Hp → Prop) (h0 : Pv 0 (upd Ha D (.dT []))) (hG : ∀ i H, i ≤ n → Pv i H → G H)
    (turn : ∀ i z H Hb, i < n → Pv i H → Y i H z Hb → TTurn g tt tk tv ss τ D (Pv (i + 1)) z Hb) (fin : ∀ H, Pv n H → Qd H) :
    ∃ R : Nat → Nat → Hp → Prop, (∃ k, R 0 k (upd Ha D (.dT []))) ∧ ∀ i k H, R i k H → (J.stop i H ∧ Qd H) ∨ (J.go i H ∧ ∃ N : Hp → Prop, (∀ Hb, N Hb → ∃ k', k' < k ∧ R (i + 1) k' Hb) ∧ ∀ z Hb, J.yld i H z Hb → TTurn g tt tk tv ss τ D N z Hb) := by
  refine ⟨fun i k H => i ≤ n ∧ k = n - i ∧ Pv i H, ⟨n, Nat.zero_le _, rfl, h0⟩, ?_⟩
  rintro i k H ⟨hi, rfl, p⟩
  have q := hG i H hi p
  rcases Nat.lt_or_ge i n with lt | ge
  · exact .inr ⟨w.goes i H lt q, Pv (i + 1), fun Hb p' => ⟨n - (i + 1), by omega, lt, rfl, p'⟩, fun z Hb y => turn i z H Hb lt p (w.yields i H z Hb lt q y)⟩
  · obtain rfl : i = n := Nat.le_antisymm hi ge
    exact .inl ⟨w.stops H q, fin H p⟩
end
end Lamp
set_option maxHeartbeats 8000000
namespace Lamp
open PySem PySem.Spec PyProof.Rows L2
section
variable {J J1 : It} {n : Nat} {G : Hp → Prop} {Y : Nat → Hp → V → Hp → Prop} {g g1 : TG} {tt tt1 : TT} {te : TE} {wi1 : TI} {ss s1 : List Nat} {τ : L2.St} {Ha : Hp} {D : Addr}
/-- one turn of a list comprehension -/
abbrev LTurn (g : TG) (tt : TT) (te : TE) (ss : List Nat) (τ : L2.St) (D : Addr) (N : Hp → Prop) (z : V) (Hb : Hp) : Prop :=
  g z (wipe τ ss) Hb fun τ2 Hc => wipe τ2 ss = wipe τ ss ∧ tt τ2 Hc fun yes Hd => if yes = true then te τ2 Hd fun y He => ∃ acc, He D = some (.lst acc) ∧ acc.length < sizeLine ∧ N (upd He D (.lst (acc ++ [y]))) else N Hd
/-- the second source of a list comprehension, walked from where it stands -/
theorem lc_in (w : Walk J n G Y) {Nx : Hp → Prop} (Pv : Nat → Hp → Prop) (h0 : Pv 0 Ha) (hG : ∀ i H, i ≤ n → Pv i H → G H) (turn : ∀ i z H Hb, i < n → Pv i H → Y i H z Hb → LTurn g tt te ss τ D (Pv (i + 1)) z Hb) (fin : ∀ H, Pv n H → Nx H) :
    ∃ R : Nat → Nat → Hp → Prop, (∃ k, R 0 k Ha) ∧ ∀ i k H, R i k H → (J.stop i H ∧ Nx H) ∨ (J.go i H ∧ ∃ N : Hp → Prop, (∀ Hb, N Hb → ∃ k', k' < k ∧ R (i + 1) k' Hb) ∧ ∀ z Hb, J.yld i H z Hb → LTurn g tt te ss τ D N z Hb) := by
  refine ⟨fun i k H => i ≤ n ∧ k = n - i ∧ Pv i H, ⟨n, Nat.zero_le _, rfl, h0⟩, ?_⟩
  rintro i k H ⟨hi, rfl, p⟩
  have q := hG i H hi p
  rcases Nat.lt_or_ge i n with lt | ge
  · exact .inr ⟨w.goes i H lt q, Pv (i + 1), fun Hb p' => ⟨n - (i + 1), by omega, lt, rfl, p'⟩, fun z Hb y => turn i z H Hb lt p (w.yields i H z Hb lt q y)⟩
  · obtain rfl : i = n := Nat.le_antisymm hi ge
    exact .inl ⟨w.stops H q, fin H p⟩
/-- one turn of the first source -/
abbrev LTurn2 (g : TG) (tt : TT) (wi1 : TI) (g1 : TG) (tt1 : TT) (te : TE) (ss s1 : List Nat) (τ : L2.St) (D : Addr) (N : Hp → Prop) (z : V) (Hb : Hp) : Prop :=
  g z (wipe τ ss) Hb fun τ2 Hc => wipe τ2 ss = wipe τ ss ∧ tt τ2 Hc fun yes Hd => if yes = true then wi1 τ2 Hd fun J1 He => ∃ R1 : Nat → Nat → Hp → Prop, (∃ k, R1 0 k He) ∧ ∀ j k H, R1 j k H →
    (J1.stop j H ∧ N H) ∨ (J1.go j H ∧ ∃ N1 : Hp → Prop, (∀ Hf, N1 Hf → ∃ k', k' < k ∧ R1 (j + 1) k' Hf) ∧ ∀ z Hf, J1.yld j H z Hf → LTurn g1 tt1 te s1 τ2 D N1 z Hf) else N Hd
theorem lc2_it (w : Walk J n G Y) {Qd : Hp → Prop} (Pv : Nat → Hp → Prop) (h0 : Pv 0 (upd Ha D (.lst []))) (hG : ∀ i H, i ≤ n → Pv i H → G H) (turn : ∀ i z H Hb, i < n → Pv i H → Y i H z Hb → LTurn2 g tt wi1 g1 tt1 te ss s1 τ D (Pv (i + 1)) z Hb) (fin : ∀ H, Pv n H → Qd H) :
    ∃ R : Nat → Nat → Hp → Prop, (∃ k, R 0 k (upd Ha D (.lst []))) ∧ ∀ i k H, R i k H → (J.stop i H ∧ Qd H) ∨ (J.go i H ∧ ∃ N : Hp → Prop, (∀ Hb, N Hb → ∃ k', k' < k ∧ R (i + 1) k' Hb) ∧ ∀ z Hb, J.yld i H z Hb → LTurn2 g tt wi1 g1 tt1 te ss s1 τ D N z Hb) := by
  refine ⟨fun i k H => i ≤ n ∧ k = n - i ∧ Pv i H, ⟨n, Nat.zero_le _, rfl, h0⟩, ?_⟩
  rintro i k H ⟨hi, rfl, p⟩
  have q := hG i H hi p
  rcases Nat.lt_or_ge i n with lt | ge
  · exact .inr ⟨w.goes i H lt q, Pv (i + 1), fun Hb p' => ⟨n - (i + 1), by omega, lt, rfl, p'⟩, fun z Hb y => turn i z H Hb lt p (w.yields i H z Hb lt q y)⟩
  · obtain rfl : i = n := Nat.le_antisymm hi ge
    exact .inl ⟨w.stops H q, fin H p⟩
end
/-- all pairs (room, one beside it) -/
def prs (rs : List Str) (ds : List Ed) : List Ed := rs.flatMap fun r => (nearOf ds r).map fun o => (r, o)
theorem prs_mem {rs : List Str} {ds : List Ed} {a b : Str} : (a, b) ∈ prs rs ds ↔ a ∈ rs ∧ b ∈ nearOf ds a := by
  unfold prs
  rw [List.mem_flatMap]
  refine ⟨fun ⟨r, hr, h⟩ => ?_, fun ⟨h1, h2⟩ => ⟨a, h1, List.mem_map.mpr ⟨b, h2, rfl⟩⟩⟩
  obtain ⟨o, ho, e⟩ := List.mem_map.mp h
  obtain ⟨rfl, rfl⟩ := Prod.mk.inj e
  exact ⟨hr, ho⟩
/-- no room stands twice beside another -/
theorem near_nodup {ds : List Ed} (ne : ∀ d ∈ ds, d.1 ≠ d.2) (nr : ∀ (e : Ed) (l : List Ed), ds.Perm (e :: l) → ¬ Conn l e.1 e.2) (a : Str) : (nearOf ds a).Nodup := by
  induction ds with
  | nil => exact List.nodup_nil
  | cons d ds ih =>
    have ih := ih (fun x hx => ne x (List.mem_cons_of_mem _ hx)) fun e l p c => nr e (d :: l) ((p.cons d).trans (List.Perm.swap _ _ _)) (c.mono fun x hx => List.mem_cons_of_mem _ hx)
    have key : ∀ o, o ∈ nearOf ds a → (d.1 = a ∧ d.2 = o) ∨ (d.2 = a ∧ d.1 = o) → False := fun o ho hd => by
      have c : Conn ds a o := by
        obtain ⟨x, hx, z⟩ := near_mem.mp ho
        rcases z with ⟨rfl, rfl⟩ | ⟨_, rfl, rfl⟩
        · exact .fwd (.refl _) hx
        · exact .bwd (.refl _) hx
      refine nr d ds (.refl _) ?_
      rcases hd with ⟨rfl, rfl⟩ | ⟨rfl, rfl⟩
      · exact c
      · exact c.symm
    show (nearOf (d :: ds) a).Nodup
    by_cases h1 : d.1 = a
    · have e : nearOf (d :: ds) a = d.2 :: nearOf ds a := by simp [nearOf, h1]
      rw [e]
      exact List.nodup_cons.mpr ⟨fun m => key _ m (.inl ⟨h1, rfl⟩), ih⟩
    · by_cases h2 : d.2 = a
      · have e : nearOf (d :: ds) a = d.1 :: nearOf ds a := by simp [nearOf, h1, h2]
        rw [e]
        exact List.nodup_cons.mpr ⟨fun m => key _ m (.inr ⟨h2, rfl⟩), ih⟩
      · have e : nearOf (d :: ds) a = nearOf ds a := by simp [nearOf, h1, h2]
        rw [e]
        exact ih
theorem prs_nodup {rs : List Str} {ds : List Ed} (g : GoodH rs ds) : (prs rs ds).Nodup := by
  have nn := near_nodup (fun d hd => (g.ends d hd).2.2) g.noring
  unfold prs
  have go : ∀ l : List Str, l.Nodup → (l.flatMap fun r => (nearOf ds r).map fun o => (r, o)).Nodup := fun l => by
    induction l with
    | nil => exact fun _ => List.nodup_nil
    | cons r l ih =>
      intro nd
      obtain ⟨h1, h2⟩ := List.nodup_cons.mp nd
      rw [List.flatMap_cons]
      refine List.nodup_append.mpr ⟨?_, ih h2, fun x hx y hy e => ?_⟩
      · exact List.Pairwise.map _ (fun p q h e => h (Prod.mk.inj e).2) (nn r)
      · subst e
        obtain ⟨o, _, rfl⟩ := List.mem_map.mp hx
        obtain ⟨q, hq, h⟩ := List.mem_flatMap.mp hy
        obtain ⟨u, _, e⟩ := List.mem_map.mp h
        exact h1 ((Prod.mk.inj e).1 ▸ hq)
  exact go rs g.nodup
theorem prs_len {rs : List Str} {ds : List Ed} : (prs rs ds).length ≤ rs.length * ds.length := by
  unfold prs
  induction rs with
  | nil => simp
  | cons r rs ih =>
    rw [List.flatMap_cons, List.length_append, List.length_map, List.length_cons, Nat.add_mul]
    have := near_len (ds := ds) (r := r)
    omega
theorem near_in {rs : List Str} {ds : List Ed} (en : ∀ d ∈ ds, d.1 ∈ rs ∧ d.2 ∈ rs ∧ d.1 ≠ d.2) {a b : Str} (h : b ∈ nearOf ds a) : b ∈ rs ∧ a ∈ rs ∧ a ≠ b := by
  obtain ⟨d, hd, z⟩ := near_mem.mp h
  obtain ⟨h1, h2, h3⟩ := en d hd
  rcases z with ⟨rfl, rfl⟩ | ⟨_, rfl, rfl⟩
  · exact ⟨h2, h1, h3⟩
  · exact ⟨h1, h2, h3.symm⟩
theorem near_sym {ds : List Ed} (ne : ∀ d ∈ ds, d.1 ≠ d.2) {a b : Str} (h : b ∈ nearOf ds a) : a ∈ nearOf ds b := by
  obtain ⟨d, hd, z⟩ := near_mem.mp h
  rcases z with ⟨rfl, rfl⟩ | ⟨_, rfl, rfl⟩
  · exact near_mem.mpr ⟨d, hd, .inr ⟨ne d hd, rfl, rfl⟩⟩
  · exact near_mem.mpr ⟨d, hd, .inl ⟨rfl, rfl⟩⟩
section
variable {P : Program} {w : World} {K : PySem.W.Frag} {mg : Str → Option Value} {base : Heap} {C : Addr}
def spPairs (C : Addr) : Sp := fun vs H Q _ => ∃ (h : Addr) (rs : List Str) (ds : List Ed), vs = [.ref h] ∧ HouseAt H C h rs ds ∧ GoodH rs ds ∧
  ∀ H' p ts, H' p = some (.lst (ts.map V.ref)) → TupsAt H' ts (prs rs ds) → Gr H H' → H p = none → Q (.ref p) H'
abbrev NPb : List Str := ["house", "room", "other"]
end
end Lamp
set_option maxHeartbeats 8000000
namespace Lamp
open PySem PySem.Spec PyProof.Rows L2
/-- a pair as a key -/
abbrev kE (p : Ed) : List Key := [.inr p.1, .inr p.2]
theorem kE_inj {p q : Ed} (h : kE p = kE q) : p = q := by
  obtain ⟨a, b⟩ := p
  obtain ⟨c, d⟩ := q
  have h1 := (List.cons.inj h).1
  have h2 := (List.cons.inj (List.cons.inj h).2).1
  have e1 : a = c := Sum.inr.inj h1
  have e2 : b = d := Sum.inr.inj h2
  rw [e1, e2]
/-- a dict from pairs to numbers -/
def PT (ps : List Ed) (c : Ed → Nat) : List (List Key × V) := ps.map fun p => (kE p, .int (c p : Int))
theorem pt_len {ps : List Ed} {c : Ed → Nat} : (PT ps c).length = ps.length := List.length_map _
theorem pt_get {c : Ed → Nat} {p : Ed} : ∀ {ps : List Ed}, p ∈ ps → valV (PT ps c) (kE p) = some (.int (c p : Int))
  | [], m => by cases m
  | q :: ps, m => by
    by_cases e : q = p
    · subst e
      simp [PT, valV]
    · have ih := pt_get (c := c) (p := p) (ps := ps) ((List.mem_cons.mp m).resolve_left fun z => e z.symm)
      rw [← ih]
      have ne : kE q ≠ kE p := fun z => e (kE_inj z)
      have no : ¬ decide (kE q = kE p) = true := by rw [decide_eq_false ne]; decide
      unfold valV PT
      rw [List.map_cons, List.find?_cons_of_neg (p := fun kv : List Key × V => decide (kv.1 = kE p)) (a := (kE q, V.int (c q : Int))) no]
theorem pt_none {c : Ed → Nat} {p : Ed} : ∀ {ps : List Ed}, p ∉ ps → valV (PT ps c) (kE p) = none
  | [], _ => rfl
  | q :: ps, m => by
    have e : q ≠ p := fun z => m (z ▸ List.mem_cons_self)
    have ih := pt_none (c := c) (p := p) (ps := ps) fun z => m (List.mem_cons_of_mem _ z)
    rw [← ih]
    have ne : kE q ≠ kE p := fun z => e (kE_inj z)
    have no : ¬ decide (kE q = kE p) = true := by rw [decide_eq_false ne]; decide
    unfold valV PT
    rw [List.map_cons, List.find?_cons_of_neg (p := fun kv : List Key × V => decide (kv.1 = kE p)) (a := (kE q, V.int (c q : Int))) no]
def putC (c : Ed → Nat) (p : Ed) (n : Nat) : Ed → Nat := fun q => if q = p then n else c q
theorem pt_new {c : Ed → Nat} {p : Ed} {n : Nat} {ps : List Ed} (m : p ∉ ps) : putK (PT ps c) (kE p) (.int (n : Int)) = PT (ps ++ [p]) (putC c p n) := by
  unfold putK
  have a : ¬ ((PT ps c).any fun kv => decide (kv.1 = kE p)) = true := fun z => by
    obtain ⟨kv, h1, h2⟩ := List.any_eq_true.mp z
    obtain ⟨x, hx, rfl⟩ := List.mem_map.mp h1
    exact m (kE_inj (of_decide_eq_true h2) ▸ hx)
  rw [if_neg a]
  unfold PT
  rw [List.map_append]
  congr 1
  · refine List.map_congr_left fun x hx => ?_
    rw [putC, if_neg (fun z : x = p => m (z ▸ hx))]
  · show [(kE p, V.int n)] = [(kE p, V.int (putC c p n p))]
    rw [putC, if_pos rfl]
theorem pt_put {c : Ed → Nat} {p : Ed} {n : Nat} {ps : List Ed} (m : p ∈ ps) : putK (PT ps c) (kE p) (.int (n : Int)) = PT ps (putC c p n) := by
  unfold putK
  have a : ((PT ps c).any fun kv => decide (kv.1 = kE p)) = true := List.any_eq_true.mpr ⟨(kE p, .int (c p : Int)), List.mem_map.mpr ⟨p, m, rfl⟩, by simp⟩
  rw [if_pos a]
  unfold PT
  rw [List.map_map]
  refine List.map_congr_left fun x _ => ?_
  show (if kE x = kE p then (kE x, V.int n) else (kE x, V.int (c x))) = (kE x, V.int (putC c p n x))
  by_cases e : x = p
  · subst e
    rw [if_pos rfl, putC, if_pos rfl]
  · rw [if_neg (fun z => e (kE_inj z)), putC, if_neg e]
theorem pt_ext {c c' : Ed → Nat} {ps : List Ed} (h : ∀ p ∈ ps, c p = c' p) : PT ps c = PT ps c' := List.map_congr_left fun p hp => by rw [h p hp]
section
variable {P : Program} {w : World} {K : PySem.W.Frag} {mg : Str → Option Value} {base : Heap} {C : Addr}
def spPasses (K : PySem.W.Frag) (C : Addr) : Sp := fun vs H Q _ => ∃ (h a : Addr) (row rs : List Str) (ds : List Ed), vs = [.ref h, .ref a] ∧ HouseAt H C h rs ds ∧ GoodH rs ds ∧ SqL K H a (row.map V.str) ∧ (∀ H', Same H H' → TyX K H' (.ref a) (.type "list")) ∧ Car rs ds row ∧ row.length < 1000 ∧
  ∀ H' p, H' p = some (.dT (PT (prs rs ds) fun e => trs row e.1 e.2 row.length)) → Gr H H' → H p = none → Q (.ref p) H'
abbrev NPs : List Str := ["house", "carrying", "counted", "index", "room", "pair"]
end
end Lamp
set_option maxHeartbeats 8000000
namespace Lamp
open PySem PySem.Spec PyProof.Rows L2
/-- a dict that was locked while it was walked -/
theorem Gr.unlock {H H' : Hp} {d : Addr} {od : Obj} {u : HO} (hd : H d = some u) (g : Gr (L2.upd H d (.frz od u)) H') : Gr H (L2.upd H' d u) := by
  refine ⟨fun b o e => ?_, fun x z => ?_⟩
  · by_cases n : b = d
    · subst n
      rw [hd] at e
      rw [upd_same, ← Option.some.inj e]
    · rw [upd_ne n]
      exact g.s b o (by rw [upd_ne n]; exact e)
  · exact (none_upd (g.n x (none_upd z).2)).2
structure TxtB (mg : Str → Option Value) : Prop where
  isi : mg "isinstance" = none
  int : mg "int" = none
  bool : mg "bool" = none
  dict : mg "dict" = none
  len : mg "len" = none
  all : mg "all" = none
section
variable {P : Program} {w : World} {K : PySem.W.Frag} {mg : Str → Option Value} {base : Heap} {C : Addr}
def spNum : Sp := fun vs H Q _ => ∃ n : Int, vs = [.int n] ∧ 0 ≤ n ∧ Q (.bl true) H
/-! ### is_passes -/
def spIsP (C : Addr) : Sp := fun vs H Q _ => ∃ (h d : Addr) (rs : List Str) (ds ps : List Ed) (c : Ed → Nat), vs = [.ref h, .ref d] ∧ HouseAt H C h rs ds ∧ GoodH rs ds ∧ H d = some (.dT (PT ps c)) ∧ ps.Perm (prs rs ds) ∧ ∀ H', Gr H H' → Q (.bl true) H'
abbrev NIp : List Str := ["house", "thing", "pairs", "pair"]
end
end Lamp
set_option maxHeartbeats 4000000
namespace Lamp
open PySem L2
/-! ### passes and the way -/
/-- a door parts the house: who goes through it alone changes sides -/
theorem door_side {rs : List Str} {ds : List Ed} (g : GoodH rs ds) {a b : Str} (h : b ∈ nearOf ds a) : ∃ f : Str → Int, f b = f a + 1 ∧ ∀ x y, y ∈ nearOf ds x → (x = a ∧ y = b) ∨ (x = b ∧ y = a) ∨ f y = f x := by
  classical
  obtain ⟨e, he, z⟩ := near_mem.mp h
  have pe : ds.Perm (e :: ds.erase e) := List.perm_cons_erase he
  have nr := g.noring e _ pe
  generalize ds.erase e = l at pe nr
  have ends : (e.1 = a ∧ e.2 = b) ∨ (e.1 = b ∧ e.2 = a) := by
    rcases z with ⟨h1, h2⟩ | ⟨_, h1, h2⟩
    · exact .inl ⟨h1, h2.symm⟩
    · exact .inr ⟨h2.symm, h1⟩
  have nab : ¬ Conn l a b := by
    rcases ends with ⟨rfl, rfl⟩ | ⟨rfl, rfl⟩
    · exact nr
    · exact fun c => nr c.symm
  refine ⟨fun x => if Conn l a x then 0 else 1, ?_, fun x y hy => ?_⟩
  · show (if Conn l a b then (0 : Int) else 1) = (if Conn l a a then 0 else 1) + 1
    rw [if_neg nab, if_pos (Conn.refl a)]
    rfl
  · obtain ⟨e2, he2, z2⟩ := near_mem.mp hy
    have mid : ∀ {p q : Str}, (p, q) ∈ l → (Conn l a p ↔ Conn l a q) := fun m => ⟨fun c => .fwd c m, fun c => .bwd c m⟩
    rcases List.mem_cons.mp (pe.mem_iff.mp he2) with q | q
    · subst q
      rcases z2 with ⟨rfl, rfl⟩ | ⟨_, rfl, rfl⟩
      · rcases ends with ⟨p1, p2⟩ | ⟨p1, p2⟩
        · exact .inl ⟨p1, p2⟩
        · exact .inr (.inl ⟨p1, p2⟩)
      · rcases ends with ⟨p1, p2⟩ | ⟨p1, p2⟩
        · exact .inr (.inl ⟨p2, p1⟩)
        · exact .inl ⟨p2, p1⟩
    · refine .inr (.inr ?_)
      have c : Conn l a x ↔ Conn l a y := by
        rcases z2 with ⟨rfl, rfl⟩ | ⟨_, rfl, rfl⟩
        · exact mid q
        · exact (mid q).symm
      show (if Conn l a y then (0 : Int) else 1) = if Conn l a x then 0 else 1
      by_cases d : Conn l a x
      · rw [if_pos d, if_pos (c.mp d)]
      · rw [if_neg d, if_neg (fun z => d (c.mpr z))]
/-- two rows with the same ends go through each door, there less back, as often -/
theorem diff_alike {rs : List Str} {ds : List Ed} (g : GoodH rs ds) {a b : Str} (h : b ∈ nearOf ds a) {row u : List Str} {n m : Nat} (hr : ∀ j, j < n → Nxt ds (at_ row j) (at_ row (j + 1))) (hu : ∀ j, j < m → Nxt ds (at_ u j) (at_ u (j + 1))) (e0 : at_ row 0 = at_ u 0) (e1 : at_ row n = at_ u m) :
    (trs row a b (n + 1) : Int) - trs row b a (n + 1) = (trs u a b (m + 1) : Int) - trs u b a (m + 1) := by
  obtain ⟨f, up, st⟩ := door_side g h
  have ne : a ≠ b := (near_in g.ends h).2.2
  have go : ∀ {w : List Str} {k : Nat}, (∀ j, j < k → Nxt ds (at_ w j) (at_ w (j + 1))) → (trs w a b (k + 1) : Int) - trs w b a (k + 1) = f (at_ w k) - f (at_ w 0) := fun {w k} hw => by
    refine trs_diff f ne up fun j hj => ?_
    rcases hw j (by omega) with z | z
    · exact .inr (.inr (by rw [z]))
    · rcases st _ _ z with q | q | q
      · exact .inl q
      · exact .inr (.inl q)
      · exact .inr (.inr q)
  rw [go hr, go hu, e0, e1]
/-- who is nowhere twice goes nowhere on twice -/
theorem trs_one {u : List Str} {a b : Str} (nd : u.Nodup) : ∀ {i : Nat}, i ≤ u.length → trs u a b i ≤ 1
  | 0, _ => Nat.zero_le _
  | 1, _ => Nat.zero_le _
  | i + 2, h => by
    show trs u a b (i + 1) + (if at_ u i = a ∧ at_ u (i + 1) = b then 1 else 0) ≤ 1
    by_cases e : at_ u i = a ∧ at_ u (i + 1) = b
    · have z : trs u a b (i + 1) = 0 := by
        rcases Nat.eq_zero_or_pos (trs u a b (i + 1)) with z | z
        · exact z
        · obtain ⟨j, hj, h1, _⟩ := trs_pos z
          have hj2 : j < u.length := by omega
          have hi2 : i < u.length := by omega
          have q1 : u[j]? = some a := by rw [at_lt hj2, h1]
          have q2 : u[i]? = some a := by rw [at_lt hi2, e.1]
          have := (List.getElem?_inj hj2 nd).mp (q1.trans q2.symm)
          omega
      rw [z, if_pos e]
      exact Nat.le_refl _
    · rw [if_neg e]
      exact trs_one nd (by omega)
section
variable {rs fs : List Str} {ds : List Ed} {s0 r0 : Str} {nv : Str → V} {d : Str → Nat} {u : List Str}
theorem WayTo.pos (w : WayTo s0 fs nv r0 u) : 0 < u.length := by
  cases u with
  | nil => cases w.head
  | cons _ _ => exact Nat.succ_pos _
theorem WayTo.first (w : WayTo s0 fs nv r0 u) : at_ u 0 = r0 := by
  cases u with
  | nil => cases w.head
  | cons x u => exact Option.some.inj w.head
theorem WayTo.final (w : WayTo s0 fs nv r0 u) : at_ u (u.length - 1) = s0 := by
  have p := w.pos
  have e := w.last
  rw [List.getLast?_eq_getElem?] at e
  exact at_some e
theorem WayTo.go (w : WayTo s0 fs nv r0 u) {j : Nat} (h : j + 1 < u.length) : nv (at_ u j) = .str (at_ u (j + 1)) := w.step j _ _ (at_lt (by omega)) (at_lt h)
theorem WayTo.nxt (w : WayTo s0 fs nv r0 u) (led : Led ds s0 fs nv d) (ne : ∀ e ∈ ds, e.1 ≠ e.2) {j : Nat} (h : j + 1 < u.length) : Nxt ds (at_ u j) (at_ u (j + 1)) := by
  have st := w.go h
  have m : at_ u j ∈ fs := w.mem _ (List.mem_of_getElem? (at_lt (by omega)))
  have nr : at_ u j ≠ s0 := fun z => by
    rw [z, led.top] at st
    cases st
  obtain ⟨q, _, e1, e2, _⟩ := led.step _ m nr
  rw [e1] at st
  obtain rfl := V.str.inj st
  exact .inr (near_sym ne e2)
/-- the way goes on from a room just as nv says -/
theorem WayTo.on (w : WayTo s0 fs nv r0 u) (led : Led ds s0 fs nv d) {r q : Str} (e : nv r = .str q) : trs u r q u.length = if r ∈ u then 1 else 0 := by
  by_cases m : r ∈ u
  · rw [if_pos m]
    obtain ⟨j, hj, e1⟩ := List.getElem_of_mem m
    have a1 : at_ u j = r := at_some (by rw [List.getElem?_eq_getElem hj, e1])
    have lt : j + 1 < u.length := by
      refine Nat.lt_of_le_of_ne hj fun z => ?_
      have f := w.final
      rw [← z, Nat.add_sub_cancel, a1] at f
      rw [f, led.top] at e
      cases e
    have st := w.go lt
    rw [a1, e] at st
    have := trs_of lt a1 (V.str.inj st).symm
    have := trs_one (a := r) (b := q) w.nodup (Nat.le_refl u.length)
    omega
  · rw [if_neg m]
    rcases Nat.eq_zero_or_pos (trs u r q u.length) with z | z
    · exact z
    · obtain ⟨j, hj, h1, _⟩ := trs_pos z
      exact absurd (h1 ▸ List.mem_of_getElem? (at_lt (show j < u.length by omega))) m
theorem WayTo.back (w : WayTo s0 fs nv r0 u) (led : Led ds s0 fs nv d) {r q : Str} (mr : r ∈ fs) (e : nv r = .str q) : trs u q r u.length = 0 := by
  rcases Nat.eq_zero_or_pos (trs u q r u.length) with z | z
  · exact z
  · obtain ⟨j, hj, h1, h2⟩ := trs_pos z
    have st := w.go hj
    rw [h1, h2] at st
    have mq : q ∈ fs := h1 ▸ w.mem _ (List.mem_of_getElem? (at_lt (show j < u.length by omega)))
    have nr : r ≠ s0 := fun z => by
      rw [z, led.top] at e
      cases e
    have nq : q ≠ s0 := fun z => by
      rw [z, led.top] at st
      cases st
    obtain ⟨x, _, e1, _, l1⟩ := led.step _ mr nr
    obtain ⟨y, _, e2, _, l2⟩ := led.step _ mq nq
    rw [e] at e1
    rw [st] at e2
    obtain rfl := V.str.inj e1
    obtain rfl := V.str.inj e2
    omega
end
/-- of a carrying: passes towards the last room and back -/
theorem car_way {rs fs row : List Str} {ds : List Ed} {s0 r0 : Str} {nv : Str → V} {d : Str → Nat} {u : List Str} (g : GoodH rs ds) (car : Car rs ds row) (w : WayTo s0 fs nv r0 u) (led : Led ds s0 fs nv d) (e0 : at_ row 0 = r0) (e1 : at_ row (row.length - 1) = s0) {a b : Str} (h : b ∈ nearOf ds a) :
    (trs row a b row.length : Int) - trs row b a row.length = (trs u a b u.length : Int) - trs u b a u.length := by
  have p1 : 0 < row.length := List.length_pos_iff.mpr car.ne
  have p2 := w.pos
  have z := diff_alike g h (row := row) (u := u) (n := row.length - 1) (m := u.length - 1) (fun j hj => car.nxt j _ _ (at_lt (by omega)) (at_lt (by omega))) (fun j hj => w.nxt led (fun e he => (g.ends e he).2.2) (by omega)) (by rw [e0, w.first]) (by rw [e1, w.final])
  rw [Nat.sub_add_cancel p1, Nat.sub_add_cancel p2] at z
  exact z
end Lamp
set_option maxHeartbeats 8000000
namespace Lamp
open PySem PySem.Spec PyProof.Rows L2
section
variable {P : Program} {w : World} {K : PySem.W.Frag} {mg : Str → Option Value} {base : Heap} {C : Addr}
/-- counted tells the passes of a carrying from r0 to s0 -/
structure OfRow (rs : List Str) (ds ps : List Ed) (c : Ed → Nat) (row : List Str) (r0 s0 : Str) : Prop where
  car : Car rs ds row
  perm : ps.Perm (prs rs ds)
  cnt : ∀ e ∈ ps, c e = trs row e.1 e.2 row.length
  first : at_ row 0 = r0
  last : at_ row (row.length - 1) = s0
theorem OfRow.mem {rs : List Str} {ds ps : List Ed} {c : Ed → Nat} {row : List Str} {r0 s0 : Str} (o : OfRow rs ds ps c row r0 s0) {a b : Str} (ha : a ∈ rs) (h : b ∈ nearOf ds a) : (a, b) ∈ ps := o.perm.mem_iff.mpr (prs_mem.mpr ⟨ha, h⟩)
theorem OfRow.r0 {rs : List Str} {ds ps : List Ed} {c : Ed → Nat} {row : List Str} {r0 s0 : Str} (o : OfRow rs ds ps c row r0 s0) : r0 ∈ rs := by
  rw [← o.first]
  exact o.car.mem _ (List.mem_of_getElem? (at_lt (List.length_pos_iff.mpr o.car.ne)))
theorem OfRow.s0 {rs : List Str} {ds ps : List Ed} {c : Ed → Nat} {row : List Str} {r0 s0 : Str} (o : OfRow rs ds ps c row r0 s0) : s0 ∈ rs := by
  rw [← o.last]
  have := List.length_pos_iff.mpr o.car.ne
  exact o.car.mem _ (List.mem_of_getElem? (at_lt (by omega)))
def spLeads (C : Addr) : Sp := fun vs H Q _ => ∃ (h d : Addr) (r0 s0 : Str) (rs row : List Str) (ds ps : List Ed) (c : Ed → Nat), vs = [.ref h, .ref d, .str r0, .str s0] ∧ HouseAt H C h rs ds ∧ GoodH rs ds ∧ H d = some (.dT (PT ps c)) ∧ OfRow rs ds ps c row r0 s0 ∧ ∀ H', Gr H H' → Q (.bl true) H'
abbrev NLe : List Str := ["house", "counted", "first", "last", "steps", "ahead", "room", "step", "more"]
end
end Lamp
set_option maxHeartbeats 8000000
namespace Lamp
open PySem PySem.Spec PyProof.Rows L2
/-- all rooms of a row are found where its passes lead -/
theorem row_found {rs : List Str} {ds : List Ed} {row fs : List Str} (car : Car rs ds row) (h0 : at_ row 0 ∈ fs) (cl : ∀ r ∈ fs, ∀ o ∈ nearOf ds r, 0 < trs row r o row.length → o ∈ fs) : ∀ j, j < row.length → at_ row j ∈ fs
  | 0, _ => h0
  | j + 1, h => by
    have ih := row_found car h0 cl j (by omega)
    rcases car.nxt j _ _ (at_lt (by omega)) (at_lt h) with z | z
    · rw [z]
      exact ih
    · exact cl _ ih _ z (trs_of h rfl rfl)
theorem tm_const {fs : List Str} {o : Str} {v : V} (m : o ∉ fs) : putK (TM fs fun _ => v) (Sum.inr o) v = TM (fs ++ [o]) fun _ => v := by
  rw [tm_new m]
  refine tm_ext fun r _ => ?_
  unfold putV
  split <;> rfl
section
variable {P : Program} {w : World} {K : PySem.W.Frag} {mg : Str → Option Value} {base : Heap} {C : Addr}
structure TxtA (mg : Str → Option Value) : Prop where
  all : mg "all" = none
def spHangs (C : Addr) : Sp := fun vs H Q _ => ∃ (h d : Addr) (r0 s0 : Str) (rs row : List Str) (ds ps : List Ed) (c : Ed → Nat), vs = [.ref h, .ref d, .str r0] ∧ HouseAt H C h rs ds ∧ GoodH rs ds ∧ H d = some (.dT (PT ps c)) ∧ OfRow rs ds ps c row r0 s0 ∧ ∀ H', Gr H H' → Q (.bl true) H'
abbrev NHa : List Str := ["house", "counted", "first", "found", "waiting", "room", "other", "pair"]
end
end Lamp
set_option maxHeartbeats 4000000
namespace Lamp
open PySem PySem.Spec PyProof.Rows L2
theorem many_eqU {x : V} : ∀ {xs : List V} {us : List Value}, Vals xs us → xs.all flatV = true → us.countP (eqU x) = xs.countP fun y => eqV y x
  | [], [], .nil, _ => rfl
  | y :: xs, u :: us, .cons r rs, h => by
    obtain ⟨h1, h2⟩ := Bool.and_eq_true_iff.mp (show (flatV y && xs.all flatV) = true from h)
    rw [List.countP_cons, List.countP_cons, many_eqU rs h2, eqU_of r h1]
theorem count_strs {z : Str} : ∀ {xs : List Str}, (xs.map V.str).countP (fun y => eqV y (.str z)) = xs.count z
  | [] => rfl
  | x :: xs => by
    rw [List.map_cons, List.countP_cons, count_strs, List.count_cons]
    rfl
/-- xs.count(z), texts -/
def rCountS (K : PySem.W.Frag) : V → List V → Hp → VK → Prop := fun x vs H Q => ∃ (p : Addr) (xs : List Str) (z : Str), x = .ref p ∧ vs = [.str z] ∧ SqL K H p (xs.map V.str) ∧ Q (.int (xs.count z : Nat)) H
theorem mt_countS {X : Cx} : MtR X "list.count" (rCountS X.K) := by
  intro pins s σ H x vs v us Q I rx rvs h
  obtain ⟨p, xs, z, rfl, rfl, hs, q⟩ := h
  cases rx
  obtain ⟨u, rfl, ru⟩ := rvs.one
  obtain ⟨its, rv, ⟨⟨c1, c2, c3, c4⟩, n, ho, hc, hdn, hd⟩, hlen⟩ := I.list hs
  simp only at hc hd
  subst hc hd
  have fs := flat_strs xs
  refine call_meets PySem.F.slot_list_count ⟨_, ho, rfl⟩ PySem.F.entry_list_count (PySem.F.args_list_count_2 _ _) (SeqAt.list_countAt p its.toArray n c2 c4 u (eqU (.str z))) ⟨ho, fun y hy => mem_eqAt ru rfl rv fs y (by simpa using hy), ?_⟩
  have e : its.toArray.toList.countP (eqU (.str z)) = xs.count z := by
    rw [show its.toArray.toList = its by simp, many_eqU rv fs, count_strs]
  rw [e]
  exact ⟨.int _, H, I.tok _, ⟨_, rfl⟩, q⟩
end Lamp
set_option maxHeartbeats 8000000
namespace Lamp
open PySem PySem.Spec PyProof.Rows L2
theorem map_sum2 {α : Type} {f g : α → Nat} {l : List α} : (l.map fun y => f y + g y).sum = (l.map f).sum + (l.map g).sum := sum_add
/-- the passes to a room and from it -/
theorem near_sum {rs : List Str} {ds : List Ed} (g : GoodH rs ds) {row : List Str} (car : Car rs ds row) (r : Str) : ((nearOf ds r).map fun o => trs row r o row.length + trs row o r row.length).sum = gon row r row.length := by
  have nn := near_nodup (fun d hd => (g.ends d hd).2.2) g.noring r
  have nr : ∀ o ∈ nearOf ds r, r ≠ o := fun o ho => (near_in g.ends ho).2.2
  have nd : (((nearOf ds r).map fun o => ((r, o) : Ed)) ++ (nearOf ds r).map fun o => ((o, r) : Ed)).Nodup := by
    refine List.nodup_append.mpr ⟨List.Pairwise.map _ (fun p q h e => h (Prod.mk.inj e).2) nn, List.Pairwise.map _ (fun p q h e => h (Prod.mk.inj e).1) nn, fun x hx y hy e => ?_⟩
    obtain ⟨o, ho, rfl⟩ := List.mem_map.mp hx
    obtain ⟨q, hq, rfl⟩ := List.mem_map.mp hy
    exact nr q hq (Prod.mk.inj e).1
  have z := trs_sum (row := row) (r := r) nd (fun p hp => by
    rcases List.mem_append.mp hp with hp | hp
    · obtain ⟨o, ho, rfl⟩ := List.mem_map.mp hp
      exact nr o ho
    · obtain ⟨o, ho, rfl⟩ := List.mem_map.mp hp
      exact (nr o ho).symm) (i := row.length) fun j hj ne tc => by
        have st : at_ row (j + 1) ∈ nearOf ds (at_ row j) := (car.nxt j _ _ (at_lt (by omega)) (at_lt hj)).resolve_left fun z => ne z.symm
        rcases tc with z | z
        · rw [z] at st ⊢
          exact List.mem_append_left _ (List.mem_map.mpr ⟨_, st, rfl⟩)
        · rw [z] at st ⊢
          exact List.mem_append_right _ (List.mem_map.mpr ⟨_, near_sym (fun d hd => (g.ends d hd).2.2) st, rfl⟩)
  rw [List.map_append, List.sum_append, List.map_map, List.map_map] at z
  rw [map_sum2, ← z]
  congr 1
  · congr 1
    refine List.map_congr_left fun o _ => ?_
    show _ = if r = r ∨ o = r then _ else _
    rw [if_pos (.inl rfl)]
  · congr 1
    refine List.map_congr_left fun o _ => ?_
    show _ = if o = r ∨ r = r then _ else _
    rw [if_pos (.inr rfl)]
theorem stays_half {rs : List Str} {ds : List Ed} (g : GoodH rs ds) {row : List Str} (car : Car rs ds row) (r : Str) : gon row r row.length + [at_ row 0, at_ row (row.length - 1)].count r = 2 * stn row r row.length := by
  have p := List.length_pos_iff.mpr car.ne
  have z := gon_stn row r (row.length - 1)
  rw [Nat.sub_add_cancel p] at z
  rw [← z, List.count_cons, List.count_cons, List.count_nil]
  simp only [beq_iff_eq]
  omega
section
variable {P : Program} {w : World} {K : PySem.W.Frag} {mg : Str → Option Value} {base : Heap} {C : Addr}
structure TxtY (mg : Str → Option Value) : Prop where
  sum : mg "sum" = none
def spBy (C : Addr) : Sp := fun vs H Q _ => ∃ (h d : Addr) (r0 s0 : Str) (rs row : List Str) (ds ps : List Ed) (c : Ed → Nat), vs = [.ref h, .ref d, .str r0, .str s0] ∧ HouseAt H C h rs ds ∧ GoodH rs ds ∧ H d = some (.dT (PT ps c)) ∧ OfRow rs ds ps c row r0 s0 ∧
  ∀ H' p, H' p = some (.dK (TM rs (NI fun r => stn row r row.length))) → Gr H H' → H p = none → Q (.ref p) H'
abbrev NBy : List Str := ["house", "counted", "first", "last", "ends", "told", "room", "through", "other"]
end
end Lamp
set_option maxHeartbeats 4000000
namespace Lamp
open PySem PySem.Spec PyProof.Rows L2 HT
section
variable {prog : Program} {w : World} {A : Around} {E : Value → Shared → Prop} {s : Shared}
/-- t[::-1], t a tuple of two -/
theorem turn_two {t sl : Addr} {x y vl vu vs : Value} {Q : Value → Shared → Prop} (ht : IsTup s.heap t #[x, y]) (hs : s.heap.IsSliceOf sl vl vu vs) (pl : IsPart vl none) (pu : IsPart vu none) (ps : IsPart vs (some (-1)))
    (k : Q (.ref s.heap.objs.size) { s with heap := s.heap.push { cls := .type "tuple", data := .seq #[y, x] } }) : wpAny (model prog w) A (getItem (.ref t) (.ref sl)) Q E s := by
  obtain ⟨os, hos, hcs, hds⟩ := id hs
  have isSl : s.TypeIs (.ref sl) "slice" := ⟨os, hos, hcs⟩
  cases pl
  cases pu
  obtain ⟨tk, rfl⟩ : ∃ tk, vs = .int (-1) tk := by
    cases ps with
    | int i tk => exact ⟨tk, rfl⟩
  unfold getItem
  try with_reducible refine wpAny_holding ?_
  first | refine wpAny_bind (wpAny_pure ?_) | skip
  refine wpAny_bind (wpAny_sequenceKey ht.typeIs (by decide) ?_)
  refine wpAny_bind (wpAny_callSpecial?_slot (name := Str.ofString "__getitem__") ht.typeIs PyProof.Rows.slot_tuple_getitem (wpAny_call_entry PyProof.Rows.slot_tuple_getitem ht.typeIs entry_tuple_getitem ?_ (args_tuple_getitem _ _)))
  show wpAny _ _ (Builtin.Tuple.tupleItemsOf (.ref t) >>= _) _ _ s
  apply wpAny_bind
  apply tupleItemsOf_ ht
  apply wpAny_bind
  apply wpAny_typeOf isSl
  rw [if_pos (by decide)]
  apply wpAny_bind
  unfold Builtin.Slice.sliceApplied Builtin.Slice.sliceFields
  refine wpAny_bind (wpAny_bind (wpAny_field hos hds (x := .none) rfl (wpAny_bind (wpAny_field hos hds (x := .none) rfl (wpAny_bind (wpAny_field hos hds (x := .int (-1) tk) rfl (wpAny_pure ?_)))))))
  apply wpAny_bind
  apply slicePart_int
  show wpAny _ _ (if ((-1 : Int) == 0) = true then _ else _) _ _ s
  rw [if_neg (by decide)]
  apply wpAny_bind
  apply slicePart_none
  apply wpAny_bind
  apply slicePart_none
  apply wpAny_bind
  apply wpAny_pure
  show wpAny _ _ (match Builtin.Slice.sliceAdjust none none (-1) ((2 : Nat) : Int) with | (lo, hi) => pure (lo, (-1 : Int), Builtin.Slice.slicePlaces lo hi (-1))) _ _ s
  rw [show Builtin.Slice.sliceAdjust none none (-1) ((2 : Nat) : Int) = (1, -1) by decide]
  show wpAny _ _ (pure ((1 : Int), (-1 : Int), Builtin.Slice.slicePlaces 1 (-1) (-1))) _ _ s
  rw [show Builtin.Slice.slicePlaces 1 (-1) (-1) = 2 by decide]
  apply wpAny_pure
  show wpAny _ _ (if ((1 : Int) == 0 && (-1 : Int) == 1 && (2 : Nat) == (#[x, y] : Array Value).size) = true then _ else _) _ _ s
  rw [if_neg (by simp)]
  have two : ((List.range 2).filterMap fun (k : Nat) => (#[x, y] : Array Value)[((1 : Int) + (k : Int) * (-1)).toNat]?).toArray = #[y, x] := rfl
  rw [two]
  first
    | exact wpAny_bind (m := Builtin.Tuple.tupleExact _) (wpAny_newObj_type (wpAny_pure ⟨_, rfl, wpAny_pure k⟩) (by show 2 ≤ sizeLine; decide))
    | exact wpAny_bind (wpAny_bind (m := Builtin.Tuple.tupleExact _) (wpAny_newObj_type (wpAny_pure ⟨_, rfl, wpAny_pure k⟩) (by show 2 ≤ sizeLine; decide)))
    | exact wpAny_bind (m := Builtin.Tuple.tupleExact _) (wpAny_newObj_type (wpAny_bind (wpAny_pure (wpAny_pure ⟨_, rfl, wpAny_pure k⟩))) (by show 2 ≤ sizeLine; decide))
end
/-- t[::-1], t a tuple of two -/
def tTurn (te : TE) : TE := fun σ H Q => te σ H fun z H1 => ∃ a x y, z = .ref a ∧ H1 a = some (.tup [x, y]) ∧ ∀ p, H1 p = none → Q (.ref p) (upd H1 p (.tup [y, x]))
theorem pe_turn {X : Cx} {e : Expr} {te : TE} {k : Nat} {p1 p2 p3 pos : Pos} (he : PE X e te) : PE X (.Subscript e (.Slice none none (some (.UnaryOp .USub (.Constant (.int 1) k p1) p2)) p3) pos) (tTurn te) := by
  constructor
  intro pins s σ H Q I h
  refine Subscript_ (thn (he.run pins s σ H _ I h) fun v s1 ⟨z, H1, I1, r1, q1⟩ => ?_)
  obtain ⟨a, x, y, ez, hz, q⟩ := q1
  subst ez
  cases r1
  have step : PO X (some (.UnaryOp .USub (.Constant (.int 1) k p1) p2)) (tPart (tUn (rU fun i => .int (-i)) (tC (.int 1)))) := po_some (pe_un un_neg pe_int)
  refine wpAny_Slice (thn (po_none.run pins s1 σ H1 (fun o Ha => o = none ∧ Ha = H1) I1 ⟨rfl, rfl⟩) fun vl s2 ⟨_, H2, I2, pl, el, e2⟩ => ?_)
  subst el e2
  refine thn (po_none.run pins s2 σ H2 (fun o Ha => o = none ∧ Ha = H2) I2 ⟨rfl, rfl⟩) fun vu s3 ⟨_, H3, I3, pu, eu, e3⟩ => ?_
  subst eu e3
  refine thn (step.run pins s3 σ H3 (fun o Ha => o = some (-1) ∧ Ha = H3) I3 ⟨1, rfl, -1, rfl, rfl, rfl⟩) fun vs s4 ⟨_, H4, I4, ps, eo, e4⟩ => ?_
  subst eo e4
  have I5 : Inv X pins σ H4 { s4 with heap := s4.heap.push { cls := .type "slice", data := .fields #[vl, vu, vs] } } := I4.kept (t' := s4.toks) fun _ _ z => Heap.get?_push_of_some _ z
  obtain ⟨its, r, ht, _⟩ := I5.tuple (.inl (.inl hz))
  obtain ⟨u1, u2, rfl, ru1, ru2⟩ := vals2 r
  show wpAny (model X.prog X.w) X.A (subscriptTail e (.Slice none none (some (.UnaryOp .USub (.Constant (.int 1) k p1) p2)) p3) (.ref a) (.ref s4.heap.objs.size)) (EP X pins σ Q) X.xe { s4 with heap := s4.heap.push { cls := .type "slice", data := .fields #[vl, vu, vs] } }
  refine tail_any (ops := [.ref a, .ref s4.heap.objs.size]) ht.typeIs (PyProof.Rows.slot_tuple_getitem.lookup) ?_ (by with_unfolding_all rfl)
  refine turn_two ht (Heap.IsSliceOf.new _ vl vu vs) pl pu ps ?_
  exact ⟨.ref _, _, I5.laid (t' := s4.toks) (o := .tup [y, x]) (fun _ _ z => Heap.get?_push_of_some _ z) (Nat.le_refl _) ⟨by show 2 ≤ sizeLine; decide, [u2, u1], .cons ru2 (.cons ru1 .nil), IsTup.new _ _⟩, rfl, q _ (I5.hok.fresh (Nat.le_refl _))⟩
end Lamp
set_option maxHeartbeats 4000000
namespace Lamp
open PySem PySem.Spec PyProof.Rows L2
/-- an iterator whose n items are new pairs, while the list at S is being filled -/
structure NewSrc (prog : Program) (w : World) (A : Around) (I S : Addr) (wr : List Addr) (n : Nat) (Rel : Nat → Value → Value → Prop) (St : Nat → Heap → Prop) : Prop where
  off : S ∉ wr
  there : ∀ i h, St i h → ∀ b ∈ wr, ∃ o, h.get? b = some o
  frame : ∀ i h g, St i h → S < h.objs.size → (∀ b o, b ≠ S → h.get? b = some o → g.get? b = some o) → St i g
  item : ∀ i (s : Shared) (Q : Option Value → Shared → Prop) (E : Value → Shared → Prop), i < n → St i s.heap → S < s.heap.objs.size →
    (∀ k v g tk, Rel i k v → g.get? s.heap.objs.size = some { cls := .type "tuple", data := .seq #[k, v] } → St (i + 1) g → (∀ b o, b ∉ wr → s.heap.get? b = some o → g.get? b = some o) → Q (some (.ref s.heap.objs.size)) { s with heap := g, toks := tk }) →
    wpAny (model prog w) A (pyNext (.ref I)) Q E s
  done : ∀ (s : Shared) (Q : Option Value → Shared → Prop) (E : Value → Shared → Prop), St n s.heap → (∀ g tk, (∀ b o, b ∉ wr → s.heap.get? b = some o → g.get? b = some o) → Q none { s with heap := g, toks := tk }) → wpAny (model prog w) A (pyNext (.ref I)) Q E s
/-- the tuples made so far, above lo, in their order -/
structure Tups (Rel : Nat → Value → Value → Prop) (lo : Addr) (h : Heap) (as : List Addr) : Prop where
  rise : as.Pairwise (· < ·)
  above : ∀ a ∈ as, lo ≤ a
  tup : ∀ (j : Nat) (a : Addr), as[j]? = some a → ∃ k v, Rel j k v ∧ h.get? a = some { cls := .type "tuple", data := .seq #[k, v] }
theorem Tups.lt {Rel : Nat → Value → Value → Prop} {lo : Addr} {h : Heap} {as : List Addr} (g : Tups Rel lo h as) {a : Addr} (m : a ∈ as) : a < h.objs.size := by
  obtain ⟨j, hj⟩ := List.mem_iff_getElem?.mp m
  obtain ⟨_, _, _, e⟩ := g.tup j a hj
  exact Heap.lt_size e
section
variable {prog : Program} {w : World} {A : Around} {s : Shared} {R : Result → Shared → Prop} {I S lo : Addr} {wr : List Addr} {n : Nat} {Rel : Nat → Value → Value → Prop} {St : Nat → Heap → Prop}
theorem fill_loop (N : NewSrc prog w A.in1 I S wr n Rel St) (small : n ≤ sizeLine) (res : Value) {h0 : Heap} (lo1 : S < lo) (lo2 : ∀ b ∈ wr, b < lo)
    (fin : ∀ g tk acc c as, (∀ b o, b ≠ S → b ∉ wr → h0.get? b = some o → g.get? b = some o) → g.get? S = some { cls := .type "list", dict := none, data := .seq acc c, slots := #[] } → as.length = n → Tups Rel lo g as → acc.toList = as.map Value.ref → R (.ok (.ret res)) { s with heap := g, toks := tk }) :
    ∀ (k i : Nat) (h : Heap) (tk c : Nat) (acc : Array Value) (as : List Addr), n - i = k → i ≤ n → St i h → (∀ b o, b ≠ S → b ∉ wr → h0.get? b = some o → h.get? b = some o) → h.get? S = some { cls := .type "list", dict := none, data := .seq acc c, slots := #[] } →
      acc.toList = as.map Value.ref → as.length = i → Tups Rel lo h as → lo ≤ h.objs.size → codeAny (model prog w) A (.builtin "list.extend.loop" ⟨[.ref S, .ref I, res], []⟩) R { s with heap := h, toks := tk } := by
  intro k
  induction k with
  | zero =>
    intro i h tk c acc as hk hi st kept atS eacc len tups _
    obtain rfl : i = n := by omega
    apply codeAny_builtin PySem.F.entry_extend_loop
    rw [Around.under_plainId PySem.F.plain_extend_loop _]
    show wpAny _ A.in1 (pyNext (.ref I) >>= _) _ _ _
    apply wpAny_bind
    refine N.done { s with heap := h, toks := tk } _ _ st fun g tk' keep => ?_
    refine wpAny_pure (fin g tk' acc c as (fun b o b1 b2 e => keep b o b2 (kept b o b1 b2 e)) (keep S _ N.off atS) len ⟨tups.rise, tups.above, fun j a e => ?_⟩ eacc)
    obtain ⟨x, y, r, t⟩ := tups.tup j a e
    exact ⟨x, y, r, keep a _ (fun m => absurd (lo2 a m) (Nat.not_lt.mpr (tups.above a (List.mem_of_getElem? e)))) t⟩
  | succ k ih =>
    intro i h tk c acc as hk hi st kept atS eacc len tups big
    have lt : i < n := by omega
    have size : acc.size = i := by rw [← Array.length_toList, eacc, List.length_map, len]
    have ltS : S < h.objs.size := Heap.lt_size atS
    apply codeAny_builtin PySem.F.entry_extend_loop
    rw [Around.under_plainId PySem.F.plain_extend_loop _]
    show wpAny _ A.in1 (pyNext (.ref I) >>= _) _ _ _
    apply wpAny_bind
    refine N.item i { s with heap := h, toks := tk } _ _ lt st ltS fun x y g tk' rel tup st' keep => ?_
    dsimp only at tup keep ⊢
    have atS' := keep S _ N.off atS
    have up : ∀ b o, b ≠ S → g.get? b = some o → (g.update S (Obj.mapSeq (·.push (Value.ref h.objs.size)))).get? b = some o := fun b o ne e => (Heap.get?_update_other _ _ (Ne.symm ne)).trans e
    show wpAny _ A.in1 (updateSeq S (·.push (Value.ref h.objs.size)) >>= _) _ _ _
    apply wpAny_bind
    have few1 : acc.size ≤ sizeLine := by omega
    have few2 : (acc.push (Value.ref h.objs.size)).size ≤ sizeLine + 1 := by
      rw [Array.size_push]
      omega
    refine wpAny_updateSeq atS' rfl (wpAny_pure ⟨plainId_quiet PySem.F.plain_extend_loop _, ?_⟩) few1 few2
    refine ih (i + 1) _ tk' _ (acc.push (Value.ref h.objs.size)) (as ++ [h.objs.size]) (by omega) lt (N.frame _ _ _ st' (Heap.lt_size atS') up) (fun b o b1 b2 e => up b o b1 (keep b o b2 (kept b o b1 b2 e))) (Heap.get?_update_self _ atS' rfl) ?_ ?_ ⟨?_, ?_, ?_⟩ ?_
    · rw [Array.toList_push, eacc, List.map_append]
      rfl
    · rw [List.length_append, len]
      rfl
    · refine List.pairwise_append.mpr ⟨tups.rise, List.pairwise_singleton _ _, fun a ma b mb => ?_⟩
      rw [List.mem_singleton.mp mb]
      exact tups.lt ma
    · intro a ma
      rcases List.mem_append.mp ma with ma | ma
      · exact tups.above a ma
      · rw [List.mem_singleton.mp ma]
        exact big
    · intro j a e
      rcases Nat.lt_trichotomy j as.length with lj | ej | gj
      · rw [List.getElem?_append_left lj] at e
        obtain ⟨p, q, r, t⟩ := tups.tup j a e
        have ab := tups.above a (List.mem_of_getElem? e)
        refine ⟨p, q, r, up a _ (fun z => ?_) (keep a _ (fun m => absurd (lo2 a m) (Nat.not_lt.mpr ab)) t)⟩
        rw [z] at ab
        exact absurd lo1 (Nat.not_lt.mpr ab)
      · subst ej
        obtain rfl : h.objs.size = a := by simpa using e
        exact ⟨x, y, len ▸ rel, up _ _ (Nat.ne_of_gt ltS) tup⟩
      · rw [List.getElem?_eq_none (by rw [List.length_append, List.length_singleton]; omega)] at e
        cases e
    · have z : (g.update S (Obj.mapSeq (·.push (Value.ref h.objs.size)))).get? h.objs.size = _ := up _ _ (Nat.ne_of_gt ltS) tup
      exact Nat.le_trans big (Nat.le_of_lt (Heap.lt_size z))
/-- the list at S is lengthened by what r gives -/
theorem fill_extend {T : String} {r : Addr} {c0 : Nat} (res : Value) (hT : s.TypeIs (.ref r) T) (nl : (Value.type T == Value.type "list") = false) (nt : (Value.type T == Value.type "tuple") = false) (atS : s.heap.get? S = some { cls := .type "list", data := .seq #[] c0 }) (ne : S ≠ r) (small : n ≤ sizeLine) (w0 : List Addr)
    (iter : ∀ (Q : Value → Shared → Prop) (E : Value → Shared → Prop), (∀ I wr St g tk, NewSrc prog w A.in1 I S wr n Rel St → St 0 g → (∀ b o, s.heap.get? b = some o → g.get? b = some o) → s.heap.objs.size ≤ g.objs.size → (∀ b ∈ wr, b ∈ w0 ∨ s.heap.objs.size ≤ b) → Q (.ref I) { s with heap := g, toks := tk }) → wpAny (model prog w) A.in1 (pyIter (.ref r)) Q E s)
    (hint : ∀ (g : Heap) (tk : Nat) (Q : Bool → Shared → Prop) (E : Value → Shared → Prop), (∀ b o, s.heap.get? b = some o → g.get? b = some o) → (∀ b, Q b { s with heap := g, toks := tk }) → wpAny (model prog w) A.in1 (Builtin.List.listLengthHint (.ref r)) Q E { s with heap := g, toks := tk })
    (fin : ∀ g tk acc c as, (∀ b o, b ≠ S → b ∉ w0 → s.heap.get? b = some o → g.get? b = some o) → g.get? S = some { cls := .type "list", dict := none, data := .seq acc c, slots := #[] } → as.length = n → Tups Rel s.heap.objs.size g as → acc.toList = as.map Value.ref → R (.ok (.ret res)) { s with heap := g, toks := tk }) :
    wpAny (model prog w) A.in1 (Builtin.List.listExtendWith (.ref S) (.ref r) res) (fun f s' => match f with | .done f => R (.ok f) s' | .again c' => c'.quiet = true ∧ codeAny (model prog w) A c' R s') (fun e s' => R (.error e) s') s := by
  unfold Builtin.List.listExtendWith
  apply wpAny_bind
  apply wpAny_typeOf hT
  have notSelf : Builtin.List.listSameRef (.ref S) (.ref r) = false := by simp [Builtin.List.listSameRef, ne]
  simp only [notSelf, nl, nt, Bool.or_false, Bool.false_eq_true, if_false]
  apply wpAny_bind
  refine iter _ _ fun I wr St g tk N st keep le1 cells => ?_
  have atS1 := keep _ _ atS
  have ltS1 : S < g.objs.size := Heap.lt_size atS1
  have run : ∀ (h : Heap) (c1 tk1 : Nat), g.objs.size ≤ h.objs.size → (∀ b o, b ≠ S → g.get? b = some o → h.get? b = some o) → h.get? S = some { cls := .type "list", data := .seq #[] c1 } → codeAny (model prog w) A (.builtin "list.extend.loop" ⟨[.ref S, .ref I, res], []⟩) R { s with heap := h, toks := tk1 } := by
    intro h c1 tk1 le2 kept atS2
    have st2 := N.frame 0 g h st ltS1 kept
    refine fill_loop (s := s) (lo := h.objs.size) (h0 := h) N small res (Heap.lt_size atS2) (fun b m => ?_) (fun g2 tk2 acc c as k2 atS3 len tups eacc => ?_) n 0 h tk1 c1 #[] [] (Nat.sub_zero _) (Nat.zero_le _) st2 (fun _ _ _ _ e => e) atS2 rfl rfl ⟨List.Pairwise.nil, (fun _ m => nomatch m), (fun j a e => by simp at e)⟩ (Nat.le_refl _)
    · obtain ⟨o, e⟩ := N.there _ _ st2 b m
      exact Heap.lt_size e
    · refine fin g2 tk2 acc c as (fun b o b1 b2 e => k2 b o b1 (fun m => ?_) (kept b o b1 (keep b o e))) atS3 len ⟨tups.rise, fun a ma => Nat.le_trans (Nat.le_trans le1 le2) (tups.above a ma), tups.tup⟩ eacc
      rcases cells b m with q | q
      · exact b2 q
      · exact absurd (Heap.lt_size e) (Nat.not_lt.mpr q)
  apply wpAny_bind
  apply wpAny_holding
  refine hint g tk _ _ keep fun more => ?_
  refine wpAny_ite_split (fun _ => ?_) (fun _ => wpAny_pure ⟨plainId_quiet PySem.F.plain_extend_loop _, run g c0 _ (Nat.le_refl _) (fun _ _ _ e => e) atS1⟩)
  apply wpAny_bind
  apply wpAny_rule
  apply wpAny_bind
  show wpAny _ _ (updateSeq S (·.push .none) >>= fun _ => updateSeq S (·.pop)) _ _ _
  apply wpAny_bind
  refine wpAny_updateSeq atS1 rfl ?_ (Nat.zero_le _) (by show 1 ≤ sizeLine + 1; exact Nat.succ_le_succ (Nat.zero_le _))
  have atS2 := Heap.get?_update_self (Obj.mapSeq (·.push Value.none)) atS1 rfl
  refine wpAny_updateSeq (hz := by seq_fits) atS2 rfl ?_
  have atS3 := Heap.get?_update_self (Obj.mapSeq (·.pop)) atS2 rfl
  refine wpAny_pure ⟨plainId_quiet PySem.F.plain_extend_loop _, run _ _ _ (by rw [Heap.size_update, Heap.size_update]; exact Nat.le_refl _) (fun b o nb e => ?_) atS3⟩
  exact (Heap.get?_update_other _ _ (Ne.symm nb)).trans ((Heap.get?_update_other _ _ (Ne.symm nb)).trans e)
end
section
variable {prog : Program} {w : World} {A : Around} {E : Value → Shared → Prop} {s : Shared} {n : Nat} {Rel : Nat → Value → Value → Prop}
/-- list(r), r giving new pairs -/
theorem fill_call {T : String} {r : Addr} {Q : Value → Shared → Prop} {OK : Heap → Prop} (w0 : List Addr) (all : ∀ g : Heap, (∀ b o, s.heap.get? b = some o → g.get? b = some o) → OK g) (typ : ∀ s1 : Shared, OK s1.heap → s1.TypeIs (.ref r) T) (lt : r < s.heap.objs.size) (nl : (Value.type T == Value.type "list") = false) (nt : (Value.type T == Value.type "tuple") = false) (small : n ≤ sizeLine)
    (iter : ∀ (s1 : Shared) (Q : Value → Shared → Prop) (E : Value → Shared → Prop), OK s1.heap → s.heap.objs.size < s1.heap.objs.size → (∃ o, s1.heap.get? s.heap.objs.size = some o ∧ o.cls = .type "list") →
      (∀ I wr St g tk, NewSrc prog w A.in1.in1 I s.heap.objs.size wr n Rel St → St 0 g → (∀ b o, s1.heap.get? b = some o → g.get? b = some o) → s1.heap.objs.size ≤ g.objs.size → (∀ b ∈ wr, b ∈ w0 ∨ s1.heap.objs.size ≤ b) → Q (.ref I) { s1 with heap := g, toks := tk }) → wpAny (model prog w) A.in1.in1 (pyIter (.ref r)) Q E s1)
    (hint : ∀ (s1 : Shared) (Q : Bool → Shared → Prop) (E : Value → Shared → Prop), OK s1.heap → (∀ b, Q b s1) → wpAny (model prog w) A.in1.in1 (Builtin.List.listLengthHint (.ref r)) Q E s1)
    (fin : ∀ g tk acc c as, (∀ b o, b ∉ w0 → s.heap.get? b = some o → g.get? b = some o) → g.get? s.heap.objs.size = some { cls := .type "list", dict := none, data := .seq acc c, slots := #[] } → as.length = n → Tups Rel (s.heap.objs.size + 1) g as → acc.toList = as.map Value.ref → Q (.ref s.heap.objs.size) { s with heap := g, toks := tk }) :
    wpAny (model prog w) A (call (.type "list") [.ref r]) Q E s := by
  refine callType_codes (Q₁ := fun ob s1 => ob = .ref s.heap.objs.size ∧ s1 = { s with heap := s.heap.push { cls := .type "list", data := .seq #[] } }) PySem.F.called_list (PySem.F.typeCall_list_1 _) PySem.F.entry_list_init (code_list_new _ ⟨rfl, rfl⟩) fun ob s1 e1 => ?_
  obtain ⟨rfl, rfl⟩ := e1
  have atS : (s.heap.push { cls := .type "list", data := .seq #[] }).get? s.heap.objs.size = some { cls := .type "list", data := .seq #[] } := Heap.get?_push_size _ rfl
  refine ⟨⟨_, atS, rfl⟩, PySem.F.args_list_init_2 _ _, ?_⟩
  show wpAny _ _ (do let old ← Builtin.List.listItems (.ref s.heap.objs.size); Builtin.List.listUpdate (.ref s.heap.objs.size) (fun _ => #[]); letGo old.toList.reverse; Builtin.List.listExtendWith (.ref s.heap.objs.size) (.ref r) .none) _ _ { s with heap := s.heap.push { cls := .type "list", data := .seq #[] } }
  apply wpAny_bind
  unfold Builtin.List.listItems
  apply wpAny_bind
  apply wpAny_seqItems atS rfl
  apply wpAny_pure
  apply wpAny_bind
  show wpAny _ _ (updateSeq s.heap.objs.size (fun _ => #[])) _ _ { s with heap := s.heap.push { cls := .type "list", data := .seq #[] } }
  refine wpAny_updateSeq atS rfl ?_ (Nat.zero_le _) (Nat.zero_le _)
  have atS2 := Heap.get?_update_self (Obj.mapSeq (fun _ => (#[] : Array Value))) atS rfl
  apply wpAny_bind
  apply wpAny_letGo
  have keep : ∀ b o, s.heap.get? b = some o → ((s.heap.push { cls := .type "list", data := .seq #[] }).update s.heap.objs.size (Obj.mapSeq (fun _ => (#[] : Array Value)))).get? b = some o := fun b o e =>
    (Heap.get?_update_other _ _ (Nat.ne_of_gt (Heap.lt_size e))).trans (Heap.get?_push_of_some _ e)
  have size : ((s.heap.push { cls := .type "list", data := .seq #[] }).update s.heap.objs.size (Obj.mapSeq (fun _ => (#[] : Array Value)))).objs.size = s.heap.objs.size + 1 := by
    rw [Heap.size_update, size_push']
  refine fill_extend (A := A.in1) (s := { s with heap := (s.heap.push { cls := .type "list", data := .seq #[] }).update s.heap.objs.size (Obj.mapSeq (fun _ => (#[] : Array Value))) }) .none (typ _ (all _ keep)) nl nt atS2 (Nat.ne_of_gt lt) small w0
    (fun Q E k => iter { s with heap := (s.heap.push { cls := .type "list", data := .seq #[] }).update s.heap.objs.size (Obj.mapSeq (fun _ => (#[] : Array Value))) } Q E (all _ keep) (by rw [size]; exact Nat.lt_succ_self _) ⟨_, atS2, rfl⟩ k) (fun g tk Q E kg k => hint { s with heap := g, toks := tk } Q E (all _ fun b o e => kg b o (keep b o e)) k) fun g tk acc c as kg atS3 len tups eacc => ?_
  dsimp only at kg tups
  rw [size] at tups
  exact ⟨rfl, fin g tk acc c as (fun b o nb e => kg b o (Nat.ne_of_lt (Heap.lt_size e)) nb (keep b o e)) atS3 len tups eacc⟩
end
end Lamp
set_option maxHeartbeats 4000000
namespace Lamp
open PySem PySem.Spec PyProof.Rows L2
section
variable {prog : Program} {w : World} {A : Around} {E : Value → Shared → Prop} {s : Shared}
/-- a zip of two lists, i pairs given out -/
def ZipSt (z TI TO i1 i2 l1 l2 S : Addr) (xs ys : Array Value) (i : Nat) (h : Heap) : Prop :=
  IsPair h TI (.ref i1) (.ref i2) ∧ h.IsListIter i1 l1 i ∧ h.IsListIter i2 l2 i ∧ h.IsList l1 xs ∧ h.IsList l2 ys ∧ (∃ a b, IsPair h TO a b) ∧
    (IsZip h z TI TO .none ∨ ∃ T f oT, IsZipHeld h z TI TO T f ∧ h.get? T = some oT ∧ T ≠ z ∧ T ≠ i1 ∧ T ≠ i2 ∧ T ≠ TO ∧ T ≠ S)
theorem zip_src {z TI TO i1 i2 l1 l2 S : Addr} (D : ZipApart z TI TO i1 i2 l1 l2) (xs ys : Array Value) (calm : A.handled = none) (off : S ∉ [z, TI, TO, i1, i2, l1, l2]) :
    NewSrc prog w A z S [z, TO, i1, i2] (min xs.size ys.size) (fun i k v => xs[i]? = some k ∧ ys[i]? = some v) (ZipSt z TI TO i1 i2 l1 l2 S xs ys) := by
  simp only [List.mem_cons, List.not_mem_nil, or_false, not_or] at off
  obtain ⟨Sz, STI, STO, Si1, Si2, Sl1, Sl2⟩ := off
  refine ⟨?_, ?_, ?_, ?_, ?_⟩
  · simp only [List.mem_cons, List.not_mem_nil, or_false, not_or]
    exact ⟨Sz, STO, Si1, Si2⟩
  · rintro i h ⟨a1, ⟨o1, e1, _⟩, ⟨o2, e2, _⟩, a4, a5, ⟨x, y, a6⟩, a7⟩ b m
    simp only [List.mem_cons, List.not_mem_nil, or_false] at m
    rcases m with rfl | rfl | rfl | rfl
    · rcases a7 with q | ⟨T, f, oT, q, _⟩
      · exact ⟨_, q⟩
      · exact ⟨_, q⟩
    · exact ⟨_, a6⟩
    · exact ⟨_, e1⟩
    · exact ⟨_, e2⟩
  · rintro i h g ⟨a1, a2, a3, a4, a5, ⟨x, y, a6⟩, a7⟩ _ k
    refine ⟨k _ _ (Ne.symm STI) a1, a2.at fun o e => k _ o (Ne.symm Si1) e, a3.at fun o e => k _ o (Ne.symm Si2) e, a4.at fun o e => k _ o (Ne.symm Sl1) e, a5.at fun o e => k _ o (Ne.symm Sl2) e, ⟨x, y, k _ _ (Ne.symm STO) a6⟩, ?_⟩
    rcases a7 with q | ⟨T, f, oT, q, q1, q2, q3, q4, q5, q6⟩
    · exact .inl (k _ _ (Ne.symm Sz) q)
    · exact .inr ⟨T, f, oT, k _ _ (Ne.symm Sz) q, k _ _ q6 q1, q2, q3, q4, q5, q6⟩
  · rintro i s1 Q E1 lt ⟨a1, a2, a3, a4, a5, ⟨x, y, a6⟩, a7⟩ ltS kq
    have lx : i < xs.size := Nat.lt_of_lt_of_le lt (Nat.min_le_left _ _)
    have ly : i < ys.size := Nat.lt_of_lt_of_le lt (Nat.min_le_right _ _)
    have ex := Array.getElem?_eq_getElem lx
    have ey := Array.getElem?_eq_getElem ly
    have fresh : ∀ {c o}, s1.heap.get? c = some o → s1.heap.objs.size ≠ c := fun e => Nat.ne_of_gt (Heap.lt_size e)
    have f1 : s1.heap.objs.size ≠ i1 := let ⟨_, e, _⟩ := a2; fresh e
    have f2 : s1.heap.objs.size ≠ i2 := let ⟨_, e, _⟩ := a3; fresh e
    have f3 : s1.heap.objs.size ≠ S := Nat.ne_of_gt ltS
    have f4 : s1.heap.objs.size ≠ TO := fresh a6
    rcases a7 with q | ⟨T, f, oT, q, q1, q2, q3, q4, q5, q6⟩
    · refine wpAny_pyNext_zip_item D q a1 a6 a2 a3 a4 a5 ex ey fun g b1 b2 b3 b4 b5 b6 keep => ?_
      refine kq _ _ g s1.toks ⟨ex, ey⟩ b5 ⟨keep _ _ D.TIz D.TITO D.TIi1 D.TIi2 a1, b3, b4, a4.at fun o e => keep _ o D.l1z D.l1TO D.l1i1 D.l1i2 e, a5.at fun o e => keep _ o D.l2z D.l2TO D.l2i1 D.l2i2 e, ⟨_, _, b2⟩, .inr ⟨s1.heap.objs.size, false, _, b1, b5, fresh q, f1, f2, f4, f3⟩⟩ fun c o hc e => ?_
      simp only [List.mem_cons, List.not_mem_nil, or_false, not_or] at hc
      exact keep c o hc.1 hc.2.1 hc.2.2.1 hc.2.2.2 e
    · refine wpAny_pyNext_zip_item_held D q q1 a1 a2 a3 a4 a5 ex ey fun g b1 b3 b4 b5 b6 keep => ?_
      refine kq _ _ g s1.toks ⟨ex, ey⟩ b5 ⟨keep _ _ D.TIz D.TIi1 D.TIi2 a1, b3, b4, a4.at fun o e => keep _ o D.l1z D.l1i1 D.l1i2 e, a5.at fun o e => keep _ o D.l2z D.l2i1 D.l2i2 e, ⟨_, _, keep _ _ D.TOz D.TOi1 D.TOi2 a6⟩, .inr ⟨T, true, oT, b1, keep _ _ q2 q3 q4 q1, q2, q3, q4, q5, q6⟩⟩ fun c o hc e => ?_
      simp only [List.mem_cons, List.not_mem_nil, or_false, not_or] at hc
      exact keep c o hc.1 hc.2.2.1 hc.2.2.2 e
  · rintro s1 Q E1 ⟨a1, a2, a3, a4, a5, ⟨x, y, a6⟩, a7⟩ kq
    have out : xs[min xs.size ys.size]? = none ∨ ys[min xs.size ys.size]? = none := by
      rcases Nat.le_total xs.size ys.size with le | le
      · exact .inl (Array.getElem?_eq_none (by rw [Nat.min_eq_left le]; exact Nat.le_refl _))
      · exact .inr (Array.getElem?_eq_none (by rw [Nat.min_eq_right le]; exact Nat.le_refl _))
    rcases a7 with q | ⟨T, f, oT, q, q1, q2, q3, q4, q5, q6⟩
    · refine wpAny_pyNext_zip_end calm D q a1 a6 a2 a3 a4 a5 out fun g keep => kq g s1.toks fun c o hc e => ?_
      simp only [List.mem_cons, List.not_mem_nil, or_false, not_or] at hc
      exact keep c o hc.1 hc.2.1 hc.2.2.1 hc.2.2.2 e
    · refine wpAny_pyNext_zip_end_held calm D q q1 a1 a2 a3 a4 a5 out fun g keep => kq g s1.toks fun c o hc e => ?_
      simp only [List.mem_cons, List.not_mem_nil, or_false, not_or] at hc
      exact keep c o hc.1 hc.2.2.1 hc.2.2.2 e
theorem zip_no_len : typeLookup (.type "zip") "__len__" = pure none := am_miss_of_fast (by decide +kernel)
theorem zip_no_hint : typeLookup (.type "zip") "__length_hint__" = pure none := am_miss_of_fast (by decide +kernel)
theorem hint_zip {z : Addr} {Q : Bool → Shared → Prop} (hT : s.TypeIs (.ref z) "zip") (k : Q true s) : wpAny (model prog w) A (Builtin.List.listLengthHint (.ref z)) Q E s := by
  unfold Builtin.List.listLengthHint
  apply wpAny_bind
  apply wpAny_specialOf hT zip_no_len
  show wpAny _ _ (specialOf (.ref z) "__length_hint__" >>= _) _ _ _
  apply wpAny_bind
  apply wpAny_specialOf hT zip_no_hint
  exact wpAny_pure k
theorem zip_apart {m l1 l2 : Nat} (t1 : l1 < m) (t2 : l2 < m) : ZipApart (m + 4) (m + 2) (m + 3) m (m + 1) l1 l2 := by
  constructor <;> (show @Ne Nat _ _) <;> omega
theorem zip_off {m l1 l2 : Nat} (t1 : l1 < m) (t2 : l2 < m) : m + 5 ∉ [m + 4, m + 2, m + 3, m, m + 1, l1, l2] := by
  simp only [List.mem_cons, List.not_mem_nil, or_false, not_or]
  omega
theorem zip_cells {m b : Nat} (lt : b < m) : b ∉ [m + 4, m + 3, m, m + 1] := by
  simp only [List.mem_cons, List.not_mem_nil, or_false, not_or]
  omega
/-- list(zip(l1, l2)), the zip just made -/
theorem list_zip {l1 l2 : Addr} {xs ys : Array Value} {Q : Value → Shared → Prop} (calm : A.handled = none) (h1 : s.heap.IsList l1 xs) (h2 : s.heap.IsList l2 ys) (small : min xs.size ys.size ≤ sizeLine)
    (fin : ∀ S g tk acc c as, s.heap.objs.size ≤ S → (∀ b o, s.heap.get? b = some o → g.get? b = some o) → g.get? S = some { cls := .type "list", dict := none, data := .seq acc c, slots := #[] } → as.length = min xs.size ys.size → Tups (fun i k v => xs[i]? = some k ∧ ys[i]? = some v) (S + 1) g as → acc.toList = as.map Value.ref → Q (.ref S) { s with heap := g, toks := tk }) :
    wpAny (model prog w) A (call (.type "zip") [.ref l1, .ref l2]) (fun v s1 => wpAny (model prog w) A (call (.type "list") [v]) Q E s1) E s := by
  have t1 : l1 < s.heap.objs.size := let ⟨_, e, _⟩ := h1; Heap.lt_size e
  have t2 : l2 < s.heap.objs.size := let ⟨_, e, _⟩ := h2; Heap.lt_size e
  refine call_zip_2 h1 h2 fun g b1 b2 b3 b4 b5 b6 keep => ?_
  obtain ⟨m, em⟩ : ∃ m : Nat, m = s.heap.objs.size := ⟨_, rfl⟩
  rw [← em] at t1 t2 b1 b2 b3 b4 b5 b6 fin
  rw [← em]
  have D : ZipApart (m + 4) (m + 2) (m + 3) m (m + 1) l1 l2 := zip_apart t1 t2
  refine fill_call (s := { s with heap := g }) (n := min xs.size ys.size) (Rel := fun i k v => xs[i]? = some k ∧ ys[i]? = some v) (T := "zip") (r := m + 4) (w0 := [m + 4, m + 3, m, m + 1]) (OK := fun h => IsZip h (m + 4) (m + 2) (m + 3) .none ∧ IsPair h (m + 2) (.ref m) (.ref (m + 1)) ∧ IsPair h (m + 3) .none .none ∧ h.IsListIter m l1 0 ∧ h.IsListIter (m + 1) l2 0 ∧ h.IsList l1 xs ∧ h.IsList l2 ys)
    (fun h k => ⟨k _ _ b1, k _ _ b2, k _ _ b3, b4.at fun o e => k _ o e, b5.at fun o e => k _ o e, h1.at fun o e => k _ o (keep _ o e), h2.at fun o e => k _ o (keep _ o e)⟩) (fun s1 ok => ⟨_, ok.1, rfl⟩) (by rw [b6]; exact Nat.lt_succ_self _) (by decide) (by decide) small (fun s1 Q1 E1 ok big atS k => ?_) (fun s1 Q1 E1 ok k => hint_zip ⟨_, ok.1, rfl⟩ (k true)) fun h tk acc c as kp atS len tups eacc => ?_
  · obtain ⟨c1, c2, c3, c4, c5, c6, c7⟩ := ok
    refine wpAny_pyIter_zip c1 ?_
    have offS : g.objs.size ∉ [m + 4, m + 2, m + 3, m, m + 1, l1, l2] := by
      rw [b6]
      exact zip_off t1 t2
    refine k (m + 4) [m + 4, m + 3, m, m + 1] _ s1.heap s1.toks (zip_src D xs ys calm offS) ⟨c2, c4, c5, c6, c7, ⟨_, _, c3⟩, .inl c1⟩ (fun _ _ e => e) (Nat.le_refl _) fun b hb => .inl hb
  · refine fin g.objs.size h tk acc c as (by rw [b6]; exact Nat.le_add_right _ _) (fun b o e => kp b o (fun hb => ?_) (keep b o e)) atS len tups eacc
    have lt := Heap.lt_size e
    rw [← em] at lt
    exact zip_cells lt hb
end
end Lamp
set_option maxHeartbeats 4000000
namespace Lamp
open PySem PySem.Spec PyProof.Rows L2
/-- new tuples of two tracked at their places -/
def put2 : Hp → List Addr → List (V × V) → Hp
  | H, a :: as, p :: ps => put2 (upd H a (.tup [p.1, p.2])) as ps
  | H, _, _ => H
theorem put2_off {b : Addr} : ∀ {as : List Addr} {ps : List (V × V)} {H : Hp}, b ∉ as → put2 H as ps b = H b
  | [], _, _, _ => rfl
  | _ :: _, [], _, _ => rfl
  | a :: as, p :: ps, H, h => by
    have ba : b ≠ a := fun z => h (z ▸ List.mem_cons_self)
    show put2 (upd H a (.tup [p.1, p.2])) as ps b = H b
    rw [put2_off (as := as) fun z => h (List.mem_cons_of_mem _ z), upd_ne ba]
theorem put2_at : ∀ {as : List Addr} {ps : List (V × V)} {H : Hp}, as.length = ps.length → as.Nodup → Paired (fun (t : Addr) (p : V × V) => put2 H as ps t = some (.tup [p.1, p.2])) as ps
  | [], [], _, _, _ => .nil
  | [], _ :: _, _, h, _ => by cases h
  | _ :: _, [], _, h, _ => by cases h
  | a :: as, p :: ps, H, h, nd => by
    obtain ⟨na, nd'⟩ := List.nodup_cons.mp nd
    refine .cons ?_ (put2_at (H := upd H a (.tup [p.1, p.2])) (Nat.succ.inj h) nd')
    show put2 (upd H a (.tup [p.1, p.2])) as ps a = _
    rw [put2_off na, upd_same]
theorem paired_find {α β : Type} {F : α → β → Prop} : ∀ {xs : List α} {ys : List β}, Paired F xs ys → ∀ {x : α}, x ∈ xs → ∃ (j : Nat) (y : β), xs[j]? = some x ∧ ys[j]? = some y ∧ F x y
  | _ :: xs, _ :: ys, .cons h t, x, m => by
    rcases List.mem_cons.mp m with rfl | m
    · exact ⟨0, _, rfl, rfl, h⟩
    · obtain ⟨j, y, e1, e2, e3⟩ := paired_find t m
      exact ⟨j + 1, y, e1, e2, e3⟩
theorem refs_vals : ∀ as : List Addr, Vals (as.map V.ref) (as.map Value.ref)
  | [] => .nil
  | _ :: as => .cons rfl (refs_vals as)
/-- a new list of new pairs is tracked -/
theorem laid_pairs {X : Cx} {pins : List (Addr × Obj)} {σ : L2.St} {H : Hp} {s : Shared} {g : Heap} {tk c : Nat} {S : Addr} {acc : Array Value} {as : List Addr} {ps : List (V × V)} (I : Inv X pins σ H s) (keep : ∀ b o, s.heap.get? b = some o → g.get? b = some o) (new : s.heap.objs.size ≤ S) (small : as.length ≤ sizeLine)
    (atS : g.get? S = some { cls := .type "list", dict := none, data := .seq acc c, slots := #[] }) (eacc : acc.toList = as.map Value.ref) (rise : as.Pairwise (· < ·)) (above : ∀ a ∈ as, S + 1 ≤ a) (len : as.length = ps.length)
    (tup : ∀ (j : Nat) (a : Addr), as[j]? = some a → ∃ (p : V × V) (k v : Value), ps[j]? = some p ∧ RelV p.1 k ∧ RelV p.2 v ∧ g.get? a = some { cls := .type "tuple", data := .seq #[k, v] }) :
    ∃ H' : Hp, Gr H H' ∧ H S = none ∧ H' S = some (.lst (as.map V.ref)) ∧ Paired (fun (t : Addr) (p : V × V) => H' t = some (.tup [p.1, p.2])) as ps ∧ Inv X pins σ H' { s with heap := g, toks := tk } := by
  have Sn : S ∉ as := fun m => absurd (above S m) (Nat.not_lt.mpr (Nat.le_refl S))
  have nd : as.Nodup := List.Pairwise.imp (fun {a b} (h : a < b) => Nat.ne_of_lt h) rise
  have high : ∀ a ∈ as, s.heap.objs.size ≤ a := fun a m => Nat.le_trans new (Nat.le_of_lt (above a m))
  have free : ∀ a ∈ as, H a = none := fun a m => I.hok.fresh (high a m)
  have freeS : H S = none := I.hok.fresh new
  have pairs := put2_at (H := upd H S (.lst (as.map V.ref))) len nd
  have off : ∀ b, b ∉ as → b ≠ S → put2 (upd H S (.lst (as.map V.ref))) as ps b = H b := fun b b1 b2 => by rw [put2_off b1, upd_ne b2]
  have eS : put2 (upd H S (.lst (as.map V.ref))) as ps S = some (.lst (as.map V.ref)) := by rw [put2_off Sn, upd_same]
  have kept : ∀ b u, H b = some u → put2 (upd H S (.lst (as.map V.ref))) as ps b = some u := fun b u e => by
    rw [off b (fun m => by rw [free b m] at e; cases e) (fun z => by rw [z, freeS] at e; cases e)]
    exact e
  have old : ∀ b o, s.heap.get? b = some o → b ∉ as ∧ b ≠ S := fun b o e => ⟨fun m => absurd (Heap.lt_size e) (Nat.not_lt.mpr (high b m)), fun z => absurd (Heap.lt_size e) (Nat.not_lt.mpr (z ▸ new))⟩
  refine ⟨put2 (upd H S (.lst (as.map V.ref))) as ps, ⟨kept, fun b z => ?_⟩, freeS, eS, pairs, ?_⟩
  · cases e : H b with
    | none => rfl
    | some u =>
      rw [kept b u e] at z
      cases z
  refine I.call' (ch := []) rfl ⟨fun b o q _ _ _ => keep b o q, fun b o q _ _ _ => ⟨o.slots, keep b o q⟩, fun b o q n _ => ?_, fun b o q _ => ⟨o, keep b o q⟩, fun b xs q => kept b _ q, fun b o u q => kept b _ q, fun b qs q => ⟨#[], by rw [kept b _ q]; simp⟩⟩ (fun b u q => ?_) I.bare fun b z => by simp at z
  · obtain ⟨z1, z2⟩ := old b o q
    rw [off b z1 z2]
    exact n
  · by_cases m : b ∈ as
    · obtain ⟨j, p, e1, e2, e3⟩ := paired_find pairs m
      rw [e3] at q
      cases q
      obtain ⟨p', k, v, f1, f2, f3, f4⟩ := tup j b e1
      rw [e2] at f1
      cases f1
      exact ⟨by show 2 ≤ sizeLine; decide, [k, v], .cons f2 (.cons f3 .nil), ⟨_, f4, rfl, _, rfl⟩⟩
    · by_cases z : b = S
      · rw [z] at q ⊢
        rw [eS] at q
        cases q
        refine ⟨by rw [List.length_map]; exact small, acc.toList, c, by rw [eacc]; exact refs_vals as, ?_⟩
        rw [Array.toArray_toList]
        exact atS
      · rw [off b m z] at q
        exact (I.hok b u q).stay (fun d v _ y => keep d v y) (fun d y => kept d _ y) fun d xs y => kept d _ y
/-- list(zip(xs, ys)), two lists -/
def tListZip (K : PySem.W.Frag) (ta : TA) : TE := fun σ H Q => ta σ H fun vs H1 => ∃ a b xs ys, vs = [.ref a, .ref b] ∧ SqL K H1 a xs ∧ SqL K H1 b ys ∧ ∀ H' p ts, Gr H1 H' → H1 p = none → H' p = some (.lst (ts.map V.ref)) → Paired (fun (t : Addr) (q : V × V) => H' t = some (.tup [q.1, q.2])) ts (xs.zip ys) → Q (.ref p) H'
theorem vals_at {xs : List V} {us : List Value} (r : Vals xs us) {i : Nat} {v : Value} (h : us[i]? = some v) : ∃ x, xs[i]? = some x ∧ RelV x v := by
  have hi := (List.getElem?_eq_some_iff.mp h).1
  have hl := r.length
  obtain ⟨x, hx⟩ : ∃ x, xs[i]? = some x := ⟨xs[i]'(by omega), List.getElem?_eq_getElem _⟩
  obtain ⟨u, hu, ru⟩ := Vals.get (i := i) (x := x) r hx
  rw [h] at hu
  cases hu
  exact ⟨x, hx, ru⟩
theorem list_zip_rule {X : Cx} {pins : List (Addr × Obj)} {σ : L2.St} {H : Hp} {s : Shared} {Q : VK} {a b : Addr} {xs ys : List V} (calm : X.A.handled = none) (I : Inv X pins σ H s) (ha : SqL X.K H a xs) (hb : SqL X.K H b ys)
    (k : ∀ H' p ts, Gr H H' → H p = none → H' p = some (.lst (ts.map V.ref)) → Paired (fun (t : Addr) (q : V × V) => H' t = some (.tup [q.1, q.2])) ts (xs.zip ys) → Q (.ref p) H') {E : Value → Shared → Prop} :
    wpAny (model X.prog X.w) X.A (call (.type "zip") [.ref a, .ref b]) (fun v s1 => wpAny (model X.prog X.w) X.A (call (.type "list") [v]) (EP X pins σ Q) E s1) E s := by
  obtain ⟨us, ru, pu, lu⟩ := I.list ha
  obtain ⟨ws, rw', pw, lw⟩ := I.list hb
  have l1 := ru.length
  have l2 := rw'.length
  have sz1 : us.toArray.size = xs.length := by simp [l1]
  have sz2 : ws.toArray.size = ys.length := by simp [l2]
  refine list_zip calm pu.isList pw.isList (by rw [sz1]; exact Nat.le_trans (Nat.min_le_left _ _) lu) fun S g tk acc c as new keep atS len tups eacc => ?_
  rw [sz1, sz2] at len
  have few : as.length ≤ sizeLine := by
    rw [len]
    exact Nat.le_trans (Nat.min_le_left _ _) lu
  obtain ⟨H', gr, fs, es, pairs, I'⟩ := laid_pairs (tk := tk) (ps := xs.zip ys) I keep new few atS eacc tups.rise tups.above (by rw [List.length_zip]; exact len) fun j t e => by
    obtain ⟨x, y, ⟨e1, e2⟩, e3⟩ := tups.tup j t e
    obtain ⟨p, ep, rp⟩ := vals_at ru (i := j) (v := x) (by simpa using e1)
    obtain ⟨q, eq, rq⟩ := vals_at rw' (i := j) (v := y) (by simpa using e2)
    refine ⟨(p, q), x, y, ?_, rp, rq, e3⟩
    rw [List.getElem?_zip_eq_some]
    exact ⟨ep, eq⟩
  exact ⟨.ref S, H', I', rfl, k H' S as gr fs es pairs⟩
theorem pe_listZip {X : Cx} {e1 e2 : Expr} {ta : TA} {p1 p2 zpos pos : Pos} (calm : X.calm = true) (args : PA X [e1, e2] ta) (g1 : Gl X "list") (m1 : X.mg "list" = none) (v1 : bootBuiltins "list" = some (.type "list")) (g2 : Gl X "zip") (m2 : X.mg "zip" = none) (v2 : bootBuiltins "zip" = some (.type "zip"))
    (st1 : starEach [.Call (.Name "zip" p2) [e1, e2] [] zpos] X.env = (false, eval (.Call (.Name "zip" p2) [e1, e2] [] zpos) X.env) :: starEach [] X.env := by rfl) (st2 : starEach [e1, e2] X.env = (false, eval e1 X.env) :: starEach [e2] X.env := by rfl) (pl : (backTo zpos (starEach [e2] X.env)).any (·.1) = false := by rfl) :
    PE X (.Call (.Name "list" p1) [.Call (.Name "zip" p2) [e1, e2] [] zpos] [] pos) (tListZip X.K ta) := by
  constructor
  intro pins s σ H Q I hq
  refine wpAny_Call_Name_kw (ld_blt I g1 m1 v1 ?_)
  refine PyProof.Rows.callWith_type1 ?_ st1 rfl
  rw [st1]
  show wpAny _ _ (spliced ((false, eval (.Call (.Name "zip" p2) [e1, e2] [] zpos) X.env) :: backTo pos (starEach [] X.env))) _ _ s
  apply Calls.spliced_cons
  refine wpAny_Call_Name_kw (ld_blt I g2 m2 v2 ?_)
  refine PyProof.Rows.callWith_type1 (thn (args.run zpos pins s σ H _ I hq) fun us s1 ⟨vs, H1, I1, r1, a, b, xs, ys, evs, ha, hb, k⟩ => ?_) st2 pl
  subst evs
  obtain ⟨u1, u2, rfl, ra, rb⟩ := vals2 r1
  obtain rfl : u1 = Value.ref a := ra
  obtain rfl : u2 = Value.ref b := rb
  exact wpAny_mono (list_zip_rule (E := X.xe) (I1.ok.hd calm) I1 ha hb k) (fun v s2 h2 => Calls.spliced_nil h2) fun _ _ z => z
end Lamp
set_option maxHeartbeats 4000000
namespace Lamp
open PySem PySem.Spec PyProof.Rows L2
open PySem.W (KdxSt)
open DT (Raw)
open L2.DX (itemsO)
section
variable {prog : Program} {w : World} {A : Around} {E : Value → Shared → Prop} {s : Shared}
theorem items_src {it d S : Addr} {es : Array DictEntry} {ep : Nat} (calm : A.handled = none) (n1 : S ≠ it) (n2 : S ≠ d) (n3 : d ≠ it) :
    NewSrc prog w A it S [it] es.size (fun i k v => ∃ e, es[i]? = some e ∧ k = e.key ∧ v = e.val) (fun i h => KdxSt h it d S i es.size ep ∧ Raw h d es ep) := by
  refine ⟨?_, ?_, ?_, ?_, ?_⟩
  · simpa using n1
  · rintro i h ⟨st, _⟩ b m
    obtain rfl := List.mem_singleton.mp m
    rcases st with ⟨_, _, _, e⟩ | ⟨_, _, _, _, _, e, _⟩
    · exact ⟨_, e⟩
    · exact ⟨_, e⟩
  · rintro i h g ⟨st, raw⟩ _ k
    exact ⟨st.keep k n1.symm, raw.at' fun o e => k d o n2.symm e⟩
  · rintro i s1 Q E1 lt ⟨st, raw⟩ ltS kq
    refine DT.nxtI st ltS raw lt fun g st' tup size keep => ?_
    exact kq _ _ g s1.toks ⟨_, Array.getElem?_eq_getElem lt, rfl, rfl⟩ tup ⟨st', raw.at' fun o e => keep d o n3 e⟩ fun b o nb e => keep b o (fun z => nb (by simp [z])) e
  · rintro s1 Q E1 ⟨st, raw⟩ kq
    exact DT.finI calm st raw (Nat.le_refl _) fun g keep => kq g s1.toks fun b o nb e => keep b o (fun z => nb (by simp [z])) e
/-- list(r), r the items of the dict at d -/
theorem list_items {r d : Addr} {es : Array DictEntry} {ep : Nat} {Q : Value → Shared → Prop} (calm : A.handled = none) (hv : s.heap.IsItemsView r d) (hm : Raw s.heap d es ep) (small : es.size ≤ sizeLine)
    (fin : ∀ S g tk acc c as, s.heap.objs.size ≤ S → (∀ b o, s.heap.get? b = some o → g.get? b = some o) → g.get? S = some { cls := .type "list", dict := none, data := .seq acc c, slots := #[] } → as.length = es.size → Tups (fun i k v => ∃ e, es[i]? = some e ∧ k = e.key ∧ v = e.val) (S + 1) g as → acc.toList = as.map Value.ref → Q (.ref S) { s with heap := g, toks := tk }) :
    wpAny (model prog w) A (call (.type "list") [.ref r]) Q E s := by
  have lr : r < s.heap.objs.size := let ⟨_, e, _⟩ := hv; Heap.lt_size e
  have ld : d < s.heap.objs.size := hm.lt
  refine fill_call (n := es.size) (Rel := fun i k v => ∃ e, es[i]? = some e ∧ k = e.key ∧ v = e.val) (T := "dict_items") (r := r) (w0 := []) (OK := fun h => h.IsItemsView r d ∧ Raw h d es ep) (fun h k => ⟨let ⟨o, e, q⟩ := hv; ⟨o, k _ _ e, q⟩, hm.at' fun o e => k d o e⟩) (fun s1 ok => ok.1.typeIs) lr (by decide) (by decide) small (fun s1 Q1 E1 ok big atS k => ?_) (fun s1 Q1 E1 ok k => PySem.W.kdx_hint ok.1.typeIs (k false)) fun h tk acc c as kp atS len tups eacc => fin _ h tk acc c as (Nat.le_refl _) (fun b o e => kp b o (fun m => nomatch m) e) atS len tups eacc
  obtain ⟨hv1, hm1⟩ := ok
  have lt2 : s.heap.objs.size ≠ s1.heap.objs.size := Nat.ne_of_lt big
  have keep : ∀ b o, s1.heap.get? b = some o → (s1.heap.push { cls := .type "dict_itemiterator", data := .fields #[.none, .bool false, .ref d, .int 0 0, .int es.size 0, .int ep 0, .none, .none] }).get? b = some o := fun b o e => Heap.get?_push_of_some _ e
  refine DT.iterI hv1 hm1 (k s1.heap.objs.size [s1.heap.objs.size] _ _ s1.toks (items_src calm lt2 (Nat.ne_of_gt ld) (Nat.ne_of_lt (Nat.lt_trans ld big))) ⟨.inl ⟨rfl, .none, .none, Heap.get?_push_size _ rfl⟩, hm1.push _⟩ keep ?_ fun b m => .inr ?_)
  · rw [size_push']
    exact Nat.le_succ _
  · rw [List.mem_singleton.mp m]
    exact Nat.le_refl _
end
/-- list(d.items()), keys tuples -/
def rItemsL2 : List V → Hp → VK → Prop := fun vs H Q => ∃ (p a : Addr) (kvs : List (List Key × V)), vs = [.ref p] ∧ H p = some (itemsO p a) ∧ H a = some (.dT kvs) ∧
  ∀ H' l ts qs, Gr H H' → H l = none → H' l = some (.lst (ts.map V.ref)) → Paired (fun (q : Addr) (kv : List Key × V) => H q = some (.tup (kv.1.map kV))) qs kvs → Paired (fun (t : Addr) (x : V × V) => H' t = some (.tup [x.1, x.2])) ts ((qs.map V.ref).zip (kvs.map (·.2))) → Q (.ref l) H'
theorem paired_all {α β : Type} {F : α → β → Prop} : ∀ {xs : List α} {ys : List β}, Paired F xs ys → ∀ {i : Nat} {y : β}, ys[i]? = some y → ∃ x, xs[i]? = some x ∧ F x y
  | [], [], .nil, _, _, h => by cases h
  | x :: xs, y :: ys, .cons r _, 0, z, h => by
    obtain rfl := Option.some.inj h
    exact ⟨x, rfl, r⟩
  | _ :: xs, _ :: ys, .cons _ q, i + 1, z, h => paired_all (i := i) q h
theorem cr_itemsL2 {X : Cx} (calm : X.calm = true) : CallR X (.type "list") rItemsL2 := by
  intro pins s σ H vs us Q I r h
  obtain ⟨p, a, kvs, rfl, hp, ha, k⟩ := h
  obtain ⟨u, rfl, ru⟩ := vals1 r
  obtain rfl : u = Value.ref p := ru
  obtain ⟨view, _, _⟩ := I.hok p _ hp
  obtain ⟨z, _, xs, rel, o, es, ep, e1, e2, e3, e4, _⟩ := I.hok a _ ha
  have lx : xs.length = kvs.length := (Paired.length rel).symm
  have le : es.size = kvs.length := by
    rw [← Array.length_toList, e4, List.length_map, lx]
  refine list_items (I.ok.hd calm) view ⟨o, e1, e2, e3⟩ (by rw [le]; exact z) fun S g tk acc c as new keep atS len tups eacc => ?_
  have lq : (((xs.map fun x => x.2.1).map V.ref).zip (kvs.map (·.2))).length = as.length := by
    rw [List.length_zip, List.length_map, List.length_map, List.length_map, lx, Nat.min_self, len, le]
  obtain ⟨H', gr, fs, eS, pairs, I'⟩ := laid_pairs (tk := tk) (ps := ((xs.map fun x => x.2.1).map V.ref).zip (kvs.map (·.2))) I keep new (by rw [len, le]; exact z) atS eacc tups.rise tups.above lq.symm fun j t e => by
    obtain ⟨kk, vv, ⟨en, f1, f2, f3⟩, f4⟩ := tups.tup j t e
    rw [← Array.getElem?_toList, e4, List.getElem?_map] at f1
    obtain ⟨x, fx, rfl⟩ := Option.map_eq_some_iff.mp f1
    obtain ⟨kv, fk, g1, g2, g3⟩ := paired_all rel fx
    refine ⟨(.ref x.2.1, kv.2), kk, vv, ?_, ?_, ?_, f4⟩
    · rw [List.getElem?_zip_eq_some]
      refine ⟨?_, ?_⟩
      · rw [List.getElem?_map, List.getElem?_map, fx]
        rfl
      · rw [List.getElem?_map, fk]
        rfl
    · rw [f2]
      exact rfl
    · rw [f3]
      exact g3
  refine ⟨.ref S, H', I', rfl, k H' S as (xs.map fun x => x.2.1) gr fs eS ?_ pairs⟩
  clear k pairs lq le lx e4 z
  have go : ∀ {ks : List (List Key × V)} {ys : List (List Key × Addr × Value)}, KT H ks ys → Paired (fun (q : Addr) (kv : List Key × V) => H q = some (.tup (kv.1.map kV))) (ys.map fun x => x.2.1) ks := fun {ks ys} q => by
    induction q with
    | nil => exact .nil
    | cons r _ ih => exact .cons r.2.1 ih
  exact go rel
end Lamp
set_option maxHeartbeats 4000000
namespace Lamp
open PySem PySem.Spec PyProof.Rows L2
/-- pairs (key tuple, value) put into a dict, one after another -/
def putAll (acc : List (List Key × V)) (es : List (List Key × Addr × V)) : List (List Key × V) := es.foldl (fun kvs e => putK kvs e.1 e.2.2) acc
/-- dict(xs), xs a list of pairs whose first is a tuple -/
def rDictT (K : PySem.W.Frag) : List V → Hp → VK → Prop := fun vs H Q => ∃ (a : Addr) (ts : List Addr) (es : List (List Key × Addr × V)), vs = [.ref a] ∧ SqL K H a (ts.map V.ref) ∧ Paired (fun (t : Addr) (e : List Key × Addr × V) => H t = some (.tup [.ref e.2.1, e.2.2]) ∧ H e.2.1 = some (.tup (e.1.map kV))) ts es ∧
  ∀ p, H p = none → Q (.ref p) (upd H p (.dT (putAll [] es)))
theorem putAll_len : ∀ {es : List (List Key × Addr × V)} {acc : List (List Key × V)}, (putAll acc es).length ≤ acc.length + es.length
  | [], acc => Nat.le_refl _
  | e :: es, acc => by
    show (putAll (putK acc e.1 e.2.2) es).length ≤ _
    have z := putAll_len (es := es) (acc := putK acc e.1 e.2.2)
    have y := length_putK acc e.1 e.2.2
    rw [List.length_cons]
    omega
theorem kt_all {H : Hp} : ∀ {es : List (List Key × Addr × V)} {us : List Value} {acc : List (List Key × V)} {xs : List (List Key × Addr × Value)}, KT H acc xs → es.length = us.length → (∀ e ∈ es, H e.2.1 = some (.tup (e.1.map kV))) → (∀ (j : Nat) (e : List Key × Addr × V) (u : Value), es[j]? = some e → us[j]? = some u → RelV e.2.2 u) →
    KT H (putAll acc es) (storedAllH xs ((es.zip us).map fun z => (z.1.1, z.1.2.1, z.2)))
  | [], [], acc, xs, r, _, _, _ => r
  | [], _ :: _, _, _, _, h, _, _ => by cases h
  | _ :: _, [], _, _, _, h, _, _ => by cases h
  | e :: es, u :: us, acc, xs, r, h, hk, hv =>
    kt_all (es := es) (us := us) (r.put e.1 (hk e List.mem_cons_self) (hv 0 e u rfl rfl)) (Nat.succ.inj h) (fun x m => hk x (List.mem_cons_of_mem _ m)) fun j x y e1 e2 => hv (j + 1) x y e1 e2
theorem vals_of_pairs {X : Cx} {pins : List (Addr × Obj)} {σ : L2.St} {H : Hp} {s : Shared} (I : Inv X pins σ H s) : ∀ {ts : List Addr} {es : List (List Key × Addr × V)}, Paired (fun (t : Addr) (e : List Key × Addr × V) => H t = some (.tup [.ref e.2.1, e.2.2]) ∧ H e.2.1 = some (.tup (e.1.map kV))) ts es →
    ∃ us : List Value, es.length = us.length ∧ (∀ (j : Nat) (e : List Key × Addr × V) (u : Value), es[j]? = some e → us[j]? = some u → RelV e.2.2 u) ∧ ∀ (j : Nat) (t : Addr) (e : List Key × Addr × V) (u : Value), ts[j]? = some t → es[j]? = some e → us[j]? = some u → s.heap.IsTuple t #[.ref e.2.1, u]
  | [], [], .nil => ⟨[], rfl, fun j e u h => by simp at h, fun j t e u h => by simp at h⟩
  | t :: ts, e :: es, .cons r q => by
    obtain ⟨us, l, h1, h2⟩ := vals_of_pairs I q
    obtain ⟨_, its, rv, o, ho, hc, n, hd⟩ := I.hok t _ r.1
    obtain ⟨u1, u2, rfl, r1, r2⟩ := vals2 rv
    obtain rfl : u1 = Value.ref e.2.1 := r1
    refine ⟨u2 :: us, by rw [List.length_cons, List.length_cons, l], fun j x u e1 e2 => ?_, fun j t' x u e0 e1 e2 => ?_⟩
    · cases j with
      | zero =>
        cases e1
        cases e2
        exact r2
      | succ j => exact h1 j x u e1 e2
    · cases j with
      | zero =>
        cases e0
        cases e1
        cases e2
        exact ⟨o, ho, hc, n, hd⟩
      | succ j => exact h2 j t' x u e0 e1 e2
theorem cr_dictT {X : Cx} (calm : X.calm = true) (hu : X.A.units + 2 < cLine) : CallR X (.type "dict") (rDictT X.K) := by
  intro pins s σ H vs uu Q I r h
  obtain ⟨a, ts, es, rfl, hs, hp, k⟩ := h
  obtain ⟨u, rfl, ru⟩ := vals1 r
  obtain rfl : u = Value.ref a := ru
  obtain ⟨its, rv, pl, small⟩ := I.list hs
  have ei := refs_at rv
  subst ei
  obtain ⟨o, n, ho, hc, hd, hdat⟩ := pl
  rw [List.length_map] at small
  obtain ⟨us, l, relv, tup⟩ := vals_of_pairs I hp
  have lt := paired_len hp
  have keys : ∀ e ∈ es, H e.2.1 = some (.tup (e.1.map kV)) := fun e m => by
    obtain ⟨j, hj, ej⟩ := List.getElem_of_mem m
    obtain ⟨t, _, q⟩ := paired_all hp (i := j) (y := e) (by rw [List.getElem?_eq_getElem hj, ej])
    exact q.2
  let qs : List (Value × Value) := (es.zip us).map fun z => (.ref z.1.2.1, z.2)
  let xs : List (List Key × Addr × Value) := (es.zip us).map fun z => (z.1.1, z.1.2.1, z.2)
  have lq : qs.length = ts.length := by
    show ((es.zip us).map _).length = _
    rw [List.length_map, List.length_zip, ← l, Nat.min_self, lt]
  have P := PairArg.list (prog := X.prog) (w := X.w) a ((ts.map Value.ref).toArray) (fun j => ts.getD j 0) qs
  refine call_dict_pairsH (knd := tupleKind (mixKind X.prog X.w)) (ps := xs) P (I.ok.hd calm) ?_ ⟨⟨o, n, ho, hc, hd, hdat⟩, ?_, fun j kk v e => ?_⟩ ⟨?_, fun j kk v e => ?_⟩ (fun g kg x m => ?_) (by rw [lq]; exact small) fun g tk dd keep => ?_
  · show X.A.in1.in1.units < cLine
    exact hu
  · simp [lq]
  · have e' : ((es.zip us).map fun z => ((Value.ref z.1.2.1, z.2) : Value × Value))[j]? = some (kk, v) := e
    rw [List.getElem?_map] at e'
    obtain ⟨⟨x, u⟩, ez, e2⟩ := Option.map_eq_some_iff.mp e'
    obtain ⟨rfl, rfl⟩ := Prod.mk.inj e2
    obtain ⟨ex, eu⟩ := List.getElem?_zip_eq_some.mp ez
    obtain ⟨t, et, _⟩ := paired_all hp ex
    have eT : ts.getD j 0 = t := by
      rw [List.getD_eq_getElem?_getD, et]
      rfl
    refine ⟨?_, ?_⟩
    · show _ = some (Value.ref (ts.getD j 0))
      rw [eT]
      simp [et]
    · show PairAt s.heap (ts.getD j 0) _ _
      rw [eT]
      exact .inl (tup j t x u et ex eu)
  · show ((es.zip us).map _).length = ((es.zip us).map _).length
    rw [List.length_map, List.length_map]
  · have e' : ((es.zip us).map fun z => ((Value.ref z.1.2.1, z.2) : Value × Value))[j]? = some (kk, v) := e
    rw [List.getElem?_map] at e'
    obtain ⟨⟨x, u⟩, ez, e2⟩ := Option.map_eq_some_iff.mp e'
    obtain ⟨rfl, rfl⟩ := Prod.mk.inj e2
    refine ⟨x.1, x.2.1, ?_, rfl⟩
    show ((es.zip us).map fun z => ((z.1.1, z.1.2.1, z.2) : List Key × Addr × Value))[j]? = _
    rw [List.getElem?_map, ez]
    rfl
  · obtain ⟨⟨y, u⟩, my, rfl⟩ := List.mem_map.mp (show x ∈ (es.zip us).map fun z => ((z.1.1, z.1.2.1, z.2) : List Key × Addr × Value) from m)
    have ky := keys y (List.of_mem_zip my).1
    obtain ⟨o', its', n', g1, g2, g3, g4⟩ := key_of I.hok ky
    have lt' := Heap.lt_size g1
    exact ⟨o', its', n', kg _ _ (Nat.ne_of_lt lt') (fun m => nomatch m) g1, g2, g3, g4⟩
  · have rel := kt_all (H := H) (acc := []) (xs := []) .nil l keys relv
    have few : (putAll [] es).length ≤ sizeLine := by
      refine Nat.le_trans (putAll_len (es := es) (acc := [])) ?_
      rw [List.length_nil, Nat.zero_add, ← lt]
      exact small
    have notSys : (s.heap.objs.size == sysModules) = false := beq_eq_false_iff_ne.mpr (Nat.ne_of_gt I.big)
    obtain ⟨o', es', ep, d1, d2, d3, d4, _, d6⟩ := dd
    have freeD : H s.heap.objs.size = none := I.hok.fresh (Nat.le_refl _)
    refine ⟨.ref s.heap.objs.size, upd H s.heap.objs.size (.dT (putAll [] es)), I.laid (t' := tk) (fun b o e => keep b o (fun m => nomatch m) e) (Nat.le_refl _) ⟨few, notSys, _, rel.keeps fun c ys ec => ?_, o', es', ep, d1, d2, d3, d4, d6⟩, rfl, k _ freeD⟩
    rw [upd_ne (ne_of_none ec freeD)]
    exact ec
end Lamp
set_option maxHeartbeats 4000000
namespace Lamp
open PySem PySem.Spec PyProof.Rows L2
/-! ### list(d.values()) -/
def rValsL : V → Hp → VK → Prop := fun x H Q => ∃ (d : Addr) (kvs : List (Key × V)), x = .ref d ∧ H d = some (.dK kvs) ∧ ∀ p, H p = none → Q (.ref p) (upd H p (.lst (kvs.map (·.2))))
def tListVals (te : TE) : TE := fun σ H Q => te σ H fun x H1 => rValsL x H1 Q
theorem kv_vals {kvs : List (Key × V)} {vs : List (Key × Value)} {ys : List Value} (kv : KV kvs vs) (l : ys.length = vs.length) (h : ∀ (j : Nat) (v : Value), ys[j]? = some v → ∃ k, vs[j]? = some (k, v)) : Vals (kvs.map (·.2)) ys := by
  induction kv generalizing ys with
  | nil =>
    obtain rfl := List.eq_nil_of_length_eq_zero l
    exact .nil
  | @cons a b _ _ r _ ih =>
    cases ys with
    | nil => cases l
    | cons y ys =>
      obtain ⟨k, e⟩ := h 0 y rfl
      refine .cons ?_ (ih (Nat.succ.inj l) fun j v e => h (j + 1) v e)
      obtain rfl := Option.some.inj e
      exact r.2
section
variable {X : Cx} {e : Expr} {te : TE} {p apos cpos pos : Pos}
theorem pe_listVals (hc : X.calm = true) (he : PE X e te) (hg : Gl X "list") (hm : X.mg "list" = none) (hv : bootBuiltins "list" = some (.type "list")) (hbase : attributeBase e "values" X.env (eval e X.env) = eval e X.env := by rfl) (hline : (apos.endLine == cpos.line) = true := by rfl)
    (hs : starEach [.Call (.Attribute e "values" apos) [] [] cpos] X.env = (false, eval (.Call (.Attribute e "values" apos) [] [] cpos) X.env) :: starEach [] X.env := by rfl) :
    PE X (.Call (.Name "list" p) [.Call (.Attribute e "values" apos) [] [] cpos] [] pos) (tListVals te) := by
  refine ⟨fun pins s σ H Q I hq => ?_⟩
  refine wpAny_Call_Name_kw (ld_blt I hg hm hv ?_)
  refine PyProof.Rows.callWith_type1 ?_ hs rfl
  rw [hs]
  show wpAny _ _ (spliced ((false, eval (.Call (.Attribute e "values" apos) [] [] cpos) X.env) :: backTo pos (starEach [] X.env))) _ _ s
  refine Calls.spliced_cons ?_
  refine wpAny_Call_method (T := "dict") (id := "dict.values") hbase rfl hline F.plainAttrs_dict F.slot_dict_values F.type_dict_values (thn (he.run pins s σ H _ I hq) fun u s1 ⟨x, H1, I1, rx, d, kvs, ex, hd, q⟩ => ?_)
  subst ex
  obtain rfl : u = Value.ref d := rx
  obtain ⟨hz, hs0, vs, kv, hdo⟩ := I1.hok d _ hd
  obtain ⟨ep, hat⟩ := hdo.dictAt
  have lk : kvs.length = vs.length := Paired.length kv
  have I2 : Inv X pins σ H1 { s1 with heap := s1.heap.push { cls := .type "dict_values", data := .fields #[.ref d] } } := I1.kept (t' := s1.toks) fun b ob q => Heap.get?_push_of_some _ q
  refine ⟨hdo.typeIs, hdo.mapOf.noDict, ?_⟩
  show wpAny _ _ (callWith cpos (.builtin "dict.values") [.ref d] [] []) _ X.xe s1
  refine method_meetsIn F.slot_dict_values F.entry_dict_values rfl (PySem.evalArgs_none ⟨rfl, hdo.typeIs, F.args_dict_values_1 _, _, meets_dict_values (mixKind X.prog X.w) d hs0, ⟨vs, hdo⟩, ?_⟩)
  refine Calls.spliced_nil ?_
  refine PySem.W.kdl_call (PySem.W.kdl_values (knd := mixKind X.prog X.w) (kvs := vs) (ep := ep)) (I1.ok.hd hc) ⟨⟨_, Heap.get?_push_size _ rfl, rfl, rfl⟩, hat.push _⟩ (by omega) fun h' tk acc c hk hS items => ?_
  have few : (kvs.map (·.2)).length ≤ sizeLine := by
    rw [List.length_map]
    exact hz
  have free : H1 (s1.heap.push { cls := .type "dict_values", data := .fields #[.ref d] }).objs.size = none := I2.hok.fresh (Nat.le_refl _)
  refine ⟨.ref _, _, I2.laid (t' := tk) (o := .lst (kvs.map (·.2))) hk (Nat.le_refl _) ⟨few, acc.toList, c, kv_vals kv (by rw [Array.length_toList]; exact items.1) fun j v e => items.2 j v (by rw [← Array.getElem?_toList]; exact e), by rw [Array.toArray_toList]; exact hS⟩, rfl, q _ free⟩
end
end Lamp
set_option maxHeartbeats 4000000
namespace Lamp
open PySem PySem.Spec PyProof.Rows L2
/-! ### the spring beside all else -/
/-- the heap has grown, but for the spring -/
structure Gs (a l : Addr) (H H' : Hp) : Prop where
  s : Sb a l H H'
  n : ∀ x, H' x = none → H x = none
theorem Gs.refl {a l : Addr} (H : Hp) : Gs a l H H := ⟨Sb.refl H, fun _ h => h⟩
theorem Gs.trans {a l : Addr} {H H1 H2 : Hp} (p : Gs a l H H1) (q : Gs a l H1 H2) : Gs a l H H2 := ⟨p.s.trans q.s, fun x z => p.n x (q.n x z)⟩
theorem Gr.gs {a l : Addr} {H H' : Hp} (g : Gr H H') : Gs a l H H' := ⟨Same.sb g.s, g.n⟩
theorem Gs.of {a l : Addr} {H H' : Hp} {n : Nat} (s : Sb a l H H') (q : Spr H' a l n) : Gs a l H H' := ⟨s, fun x z => by
  rcases h : H x with _ | o
  · rfl
  · have e := s x o h (q.na z) (fun e => absurd e (q.nl z))
    rw [e] at z
    cases z⟩
theorem Gs.put {a l p : Addr} {H H' : Hp} {o : HO} (g : Gs a l H H') (h : H p = none) : Gs a l H (L2.upd H' p o) := ⟨fun x u e n1 n2 => by
  rw [upd_ne (ne_of_none e h)]
  exact g.s x u e n1 n2, fun _ z => g.n _ (none_upd z).2⟩
/-- no list with a number in it -/
def okO : HO → Bool
  | .lst vs => vs.all fun v => match v with
    | .int _ => false
    | _ => true
  | _ => true
theorem Gs.keep {a l b : Addr} {H H' : Hp} {n : Nat} {o : HO} (g : Gs a l H H') (p : Spr H a l n) (h : H b = some o) (ok : okO o = true) : H' b = some o := by
  obtain ⟨ne, cs, cur, mix, h1, h2, _, _⟩ := p
  refine g.s b o h (fun z => ?_) (fun z => ?_)
  · rw [z, h1] at h
    rw [← Option.some.inj h] at ok
    cases ok
  · rw [z, h2] at h
    rw [← Option.some.inj h] at ok ⊢
    cases cs with
    | nil => rfl
    | cons c cs => cases ok
theorem ok_strs (xs : List Str) : okO (.lst (xs.map V.str)) = true := by
  show (xs.map V.str).all _ = true
  rw [List.all_map]
  exact List.all_eq_true.mpr fun x _ => rfl
theorem ok_refs (xs : List Addr) : okO (.lst (xs.map V.ref)) = true := by
  show (xs.map V.ref).all _ = true
  rw [List.all_map]
  exact List.all_eq_true.mpr fun x _ => rfl
theorem HouseAt.gs {a l : Addr} {n : Nat} {H H' : Hp} {C h : Addr} {rs : List Str} {ds : List Ed} (hh : HouseAt H C h rs ds) (p : Spr H a l n) (g : Gs a l H H') : HouseAt H' C h rs ds := by
  obtain ⟨dx, ra, da, na, ts, h1, h2, h3, h4, nf, h5, h6⟩ := hh.at_
  exact ⟨dx, ra, da, na, ts, g.keep p h1 rfl, g.keep p h2 (ok_strs _), g.keep p h3 (ok_refs _), Paired.imp (fun _ _ e => g.keep p e rfl) h4, nf, g.keep p h5 rfl, fun r hr => g.keep p (h6 r hr) (ok_strs _)⟩
theorem TupsAt.gs {a l : Addr} {n : Nat} {H H' : Hp} {ts : List Addr} {es : List Ed} (h : TupsAt H ts es) (p : Spr H a l n) (g : Gs a l H H') : TupsAt H' ts es := Paired.imp (fun _ _ e => g.keep p e rfl) h
/-! ### one order alone is sorted -/
theorem rises_all : ∀ {l : List Str} {p : Str}, risingS p l = true → (∀ x ∈ l, ¬ (x.cps.toList < p.cps.toList)) ∧ sortedS l = true
  | [], p, _ => ⟨fun x h => (by cases h), rfl⟩
  | x :: l, p, h => by
    have h' : (!ltCps x.cps.toList p.cps.toList && risingS x l) = true := h
    rw [Bool.and_eq_true] at h'
    obtain ⟨h1, h2⟩ := h'
    have n1 : ¬ (x.cps.toList < p.cps.toList) := by
      rw [ltCps_eq] at h1
      simpa using h1
    have ih := rises_all h2
    refine ⟨fun y hy => ?_, h2⟩
    rcases List.mem_cons.mp hy with rfl | hy
    · exact n1
    · have n2 := ih.1 y hy
      exact fun z => n1 (List.lt_of_le_of_lt (List.not_lt.mp n2) z)
theorem str_eq {x y : Str} (h1 : ¬ (x.cps.toList < y.cps.toList)) (h2 : ¬ (y.cps.toList < x.cps.toList)) : x = y := by
  have e : x.cps.toList = y.cps.toList := List.le_antisymm (List.not_lt.mp h2) (List.not_lt.mp h1)
  cases x
  cases y
  congr 1
  exact Array.toList_inj.mp e
theorem sorted_one : ∀ {xs ys : List Str}, xs.Perm ys → sortedS xs = true → sortedS ys = true → xs = ys
  | [], ys, p, _, _ => p.nil_eq
  | x :: xs, [], p, _, _ => absurd p.length_eq (by simp)
  | x :: xs, y :: ys, p, hx, hy => by
    obtain ⟨a1, a2⟩ := rises_all (p := x) (l := xs) hx
    obtain ⟨b1, b2⟩ := rises_all (p := y) (l := ys) hy
    have e : x = y := by
      have m1 : x ∈ y :: ys := p.mem_iff.mp List.mem_cons_self
      have m2 : y ∈ x :: xs := p.mem_iff.mpr List.mem_cons_self
      rcases List.mem_cons.mp m1 with z | z
      · exact z
      · rcases List.mem_cons.mp m2 with u | u
        · exact u.symm
        · exact str_eq (b1 x z) (a1 y u)
    subst e
    rw [sorted_one p.cons_inv a2 b2]
end Lamp
set_option maxHeartbeats 8000000
namespace Lamp
open PySem PySem.Spec PyProof.Rows L2
/-! ### _law_pick, _law_h_names -/
def spPick : Sp := fun vs H Q _ => ∃ (a l p : Addr) (n : Nat) (xs : List Str), vs = [.ref a, .ref p] ∧ Spr H a l n ∧ H p = some (.lst (xs.map V.str)) ∧ xs ≠ [] ∧ n ≤ 1000000 ∧ xs.length < 1000000 ∧
  ∀ H' x, x ∈ xs → Gs a l H H' → Spr H' a l (n + 1) → Q (.str x) H'
/-- the law's names -/
def gNames : List Str := ["b", "aa", "c1", "hall", "z9", "a", "m3", "abcdefghijk1", "attic", "no", "q7", "cellar"]
theorem names_ok : (gNames.all fun r => nameOk r) = true := by decide +kernel
theorem names_unlike : gNames.Nodup := by decide +kernel
def spNames : Sp := fun vs H Q _ => ∃ (a l : Addr) (n m : Nat), vs = [.ref a, .int (m : Nat)] ∧ Spr H a l n ∧ n ≤ 900000 ∧ 1 ≤ m ∧ m ≤ 12 ∧
  ∀ H' q (rs : List Str), rs.length = m → rs.Nodup → (∀ r ∈ rs, nameOk r = true) → Gs a l H H' → Spr H' a l (n + 12) → H q = none → H' q = some (.lst (rs.map V.str)) → Q (.ref q) H'
theorem perm_strs {xs : List Str} {ys : List V} (p : ys.Perm (xs.map V.str)) : ∃ zs : List Str, ys = zs.map V.str ∧ zs.Perm xs := by
  have all : ∀ y ∈ ys, ∃ x, y = V.str x := fun y hy => by
    obtain ⟨x, _, e⟩ := List.mem_map.mp (p.mem_iff.mp hy)
    exact ⟨x, e.symm⟩
  have get : ∀ {ys : List V}, (∀ y ∈ ys, ∃ x, y = V.str x) → ∃ zs : List Str, ys = zs.map V.str := fun {ys} h => by
    induction ys with
    | nil => exact ⟨[], rfl⟩
    | cons y ys ih =>
      obtain ⟨x, rfl⟩ := h y List.mem_cons_self
      obtain ⟨zs, rfl⟩ := ih fun z hz => h z (List.mem_cons_of_mem _ hz)
      exact ⟨x :: zs, rfl⟩
  obtain ⟨zs, rfl⟩ := get all
  refine ⟨zs, rfl, ?_⟩
  have q := p.filterMap fun v => match v with
    | .str x => some x
    | _ => none
  rw [List.filterMap_map, List.filterMap_map] at q
  have e : ∀ l : List Str, List.filterMap ((fun v : V => match v with
    | .str x => some x
    | _ => none) ∘ V.str) l = l := fun l => by
    induction l with
    | nil => rfl
    | cons x l ih =>
      rw [List.filterMap_cons]
      show x :: _ = x :: l
      rw [ih]
  rw [e, e] at q
  exact q
section
variable {P : Program} {w : World} {K : PySem.W.Frag} {mg : Str → Option Value} {base : Heap} {C : Addr}
theorem scPk : FnScope ["stream", "some"] ["stream", "some"] (defScope s_law_pick) := ⟨rfl, rfl, rfl, by decide +kernel, rfl, by decide +kernel, by decide +kernel⟩
theorem ok_pick {f : Addr} {fd : FuncData} (F : Fun K "_law_pick" "_law_pick" s_law_pick f fd) (T : TxtS mg) (DO : Stands P w K mg base 1 "_law_draw" ["stream", "many"] spDraw) : FnOk P w K mg base CX0 2 f fd ["stream", "some"] spPick := by
  obtain ⟨fD, dD, GD, mD, kD, bD⟩ := DO
  refine F.ok scPk (fun vs H Q E h => ?_) (fun cdv A outer s H vs Q E hr h => ?_)
  · obtain ⟨a, l, p, n, xs, rfl, _⟩ := h
    rfl
  · obtain ⟨a, l, p, n, xs, rfl, hS, hp, ne, hn, hl, k⟩ := h
    refine ⟨_, pss_one (ps_ret (pe_ix ix_list (pv 1) (pe_call GD (hr.mono (by decide)) (by rfl) mD kD bD .nil pass0 (pa_cons (pv 0) (pa_cons (pe_callB call_len_seq (by rfl) T.len PySem.boot_len (pa_cons (pv 1) pa_nil)) pa_nil))) (fun _ _ => rfl))), ?_⟩
    have pos := List.length_pos_iff.mpr ne
    refine ⟨_, rfl, _, rfl, _, rfl, p, _, rfl, .inl (SqL.of hp), a, l, n, _, rfl, hS, hn, (by rw [List.length_map]; omega), (by rw [List.length_map]; omega), fun H' d sb s2 d0 d1 => ?_⟩
    have g : Gs a l H H' := Gs.of sb s2
    rw [List.length_map] at d1
    obtain ⟨i, rfl⟩ : ∃ i : Nat, d = (i : Int) := ⟨d.toNat, by omega⟩
    have hi : i < xs.length := by omega
    refine ⟨p, _, _, .str xs[i], rfl, rfl, SqL.of (g.keep hS hp (ok_strs _)), atI_nat (j := i) (by rw [List.getElem?_map, List.getElem?_eq_getElem hi]; rfl), ?_⟩
    exact k H' xs[i] (List.getElem_mem hi) g s2
theorem scHm : FnScope ["stream", "many", "some"] ["stream", "many"] (defScope s_law_h_names) := ⟨rfl, rfl, rfl, by decide +kernel, rfl, by decide +kernel, by decide +kernel⟩
theorem ok_names {f : Addr} {fd : FuncData} (F : Fun K "_law_h_names" "_law_h_names" s_law_h_names f fd) (MO : Stands P w K mg base 2 "_law_mixed" ["stream", "some"] (spMixed K)) : FnOk P w K mg base CX0 3 f fd ["stream", "many"] spNames := by
  obtain ⟨fM, dM, GM, mM, kM, bM⟩ := MO
  refine F.ok scHm (fun vs H Q E h => ?_) (fun cdv A outer s H vs Q E hr h => ?_)
  · obtain ⟨a, l, n, m, rfl, _⟩ := h
    rfl
  · obtain ⟨a, l, n, m, rfl, hS, hn, h1, h2, k⟩ := h
    refine ⟨_, pss_cons (ps_set (i := 2) scHm.nd rfl (Or.inl rfl) (pe_lst (pa_cons pe_str (pa_cons pe_str (pa_cons pe_str (pa_cons pe_str (pa_cons pe_str (pa_cons pe_str (pa_cons pe_str (pa_cons pe_str (pa_cons pe_str (pa_cons pe_str (pa_cons pe_str (pa_cons pe_str pa_nil))))))))))))))
      (pss_one (ps_ret (pe_slice sl_list (pe_call GM hr (by rfl) mM kM bM .nil pass0 (pa_cons (pv 0) (pa_cons (pv 2) pa_nil))) po_none (po_some (pv 1))))), ?_⟩
    refine ⟨(by show 12 ≤ sizeLine; decide), fun p hp => ?_⟩
    have g1 : Gr H (upd H p (.lst (gNames.map V.str))) := Gr.upd hp
    refine ⟨_, rfl, _, rfl, a, l, p, n, gNames.map V.str, rfl, hS.stay g1.s, .inl (SqL.of upd_same), (by show n + 12 ≤ 1000000; omega), (by decide), fun H2 q ys sb s2 nq e2 py => ?_⟩
    obtain ⟨zs, rfl, pz⟩ := perm_strs py
    have g2 : Gs a l (upd H p (.lst (gNames.map V.str))) H2 := Gs.of sb s2
    refine ⟨_, rfl, _, rfl, q, _, rfl, SqL.of e2, fun r nr => ?_⟩
    have ln : zs.length = 12 := pz.length_eq
    have ec : cutV (zs.map V.str) none (some ((m : Nat) : Int)) = (zs.take m).map V.str := by
      unfold cutV
      rw [HT.sIx_nat, HT.sIx_none, List.drop_zero, Nat.sub_zero, List.length_map, ln, Nat.min_eq_left h2, List.map_take]
    rw [ec]
    have g3 : Gs a l H2 (upd H2 r (.lst ((zs.take m).map V.str))) := (Gr.upd nr).gs
    refine k _ r (zs.take m) (by rw [List.length_take, ln]; omega) (List.Nodup.sublist (List.take_sublist _ _) (pz.nodup_iff.mpr names_unlike)) (fun x hx => List.all_eq_true.mp names_ok x (pz.mem_iff.mp (List.mem_of_mem_take hx))) ((g1.gs.trans g2).trans g3) ((s2.stay (same_upd nr))) (g1.n _ (g2.n _ nr)) upd_same
end
end Lamp
set_option maxHeartbeats 8000000
namespace Lamp
open PySem PySem.Spec PyProof.Rows L2
/-! ### _law_h_doors -/
structure TxtMx (mg : Str → Option Value) : Prop where
  max : mg "max" = none
def spHDoors : Sp := fun vs H Q _ => ∃ (a l p : Addr) (n : Nat) (rs : List Str), vs = [.ref a, .ref p] ∧ Spr H a l n ∧ H p = some (.lst (rs.map V.str)) ∧ rs ≠ [] ∧ rs.length ≤ 12 ∧ rs.Nodup ∧ n ≤ 900000 ∧
  ∀ H' q ts es es0 m, m ≤ n + 60 → Tree rs es0 → es.Perm es0 → TupsAt H' ts es → H' q = some (.lst (ts.map V.ref)) → Gs a l H H' → Spr H' a l m → H q = none → Q (.ref q) H'
theorem perm_refs {xs : List Addr} {ys : List V} (p : ys.Perm (xs.map V.ref)) : ∃ zs : List Addr, ys = zs.map V.ref ∧ zs.Perm xs := by
  have all : ∀ y ∈ ys, ∃ x, y = V.ref x := fun y hy => by
    obtain ⟨x, _, e⟩ := List.mem_map.mp (p.mem_iff.mp hy)
    exact ⟨x, e.symm⟩
  have get : ∀ {ys : List V}, (∀ y ∈ ys, ∃ x, y = V.ref x) → ∃ zs : List Addr, ys = zs.map V.ref := fun {ys} h => by
    induction ys with
    | nil => exact ⟨[], rfl⟩
    | cons y ys ih =>
      obtain ⟨x, rfl⟩ := h y List.mem_cons_self
      obtain ⟨zs, rfl⟩ := ih fun z hz => h z (List.mem_cons_of_mem _ hz)
      exact ⟨x :: zs, rfl⟩
  obtain ⟨zs, rfl⟩ := get all
  refine ⟨zs, rfl, ?_⟩
  have q := p.filterMap fun v => match v with
    | .ref x => some x
    | _ => none
  rw [List.filterMap_map, List.filterMap_map] at q
  have e : ∀ l : List Addr, List.filterMap ((fun v : V => match v with
    | .ref x => some x
    | _ => none) ∘ V.ref) l = l := fun l => by
    induction l with
    | nil => rfl
    | cons x l ih =>
      rw [List.filterMap_cons]
      show x :: _ = x :: l
      rw [ih]
  rw [e, e] at q
  exact q
theorem tree_len {rs : List Str} {es : List Ed} (t : Tree rs es) : es.length + 1 = rs.length := by
  induction t with
  | one r => rfl
  | grow t _ _ _ ih => rw [List.length_append, List.length_append, List.length_singleton, List.length_singleton, ih]
/-- where the next door leads -/
theorem pick_at {k d2 d3 j : Nat} (h : 1 ≤ k) (h2 : d2 < k) (h3 : d3 < 2) (hj : j < 4) : ∃ i : Nat, i < k ∧ atI [V.int ((k : Int) - 1), V.int 0, V.int (d2 : Int), V.int (if (k : Int) - 1 - (d3 : Int) > 0 then (k : Int) - 1 - (d3 : Int) else 0)] ((j : Nat) : Int) = some (V.int (i : Nat)) := by
  have go : ∀ {x : V}, ([V.int ((k : Int) - 1), V.int 0, V.int (d2 : Int), V.int (if (k : Int) - 1 - (d3 : Int) > 0 then (k : Int) - 1 - (d3 : Int) else 0)] : List V)[j]? = some x → atI [V.int ((k : Int) - 1), V.int 0, V.int (d2 : Int), V.int (if (k : Int) - 1 - (d3 : Int) > 0 then (k : Int) - 1 - (d3 : Int) else 0)] ((j : Nat) : Int) = some x := fun e => atI_nat e
  rcases j with _ | _ | _ | _ | j
  · exact ⟨k - 1, by omega, go (by show some (V.int _) = some (V.int _); congr 2; omega)⟩
  · exact ⟨0, by omega, go rfl⟩
  · exact ⟨d2, h2, go rfl⟩
  · refine ⟨k - 1 - d3, by omega, go ?_⟩
    show some (V.int _) = some (V.int _)
    congr 2
    split <;> omega
  · omega
section
variable {P : Program} {w : World} {K : PySem.W.Frag} {mg : Str → Option Value} {base : Heap} {C : Addr}
abbrev NHd : List Str := ["stream", "rooms", "shape", "found", "k", "at", "pair"]
theorem scHd : FnScope NHd ["stream", "rooms"] (defScope s_law_h_doors) := ⟨rfl, rfl, rfl, by decide +kernel, rfl, by decide +kernel, by decide +kernel⟩
theorem ok_hdoors {f : Addr} {fd : FuncData} (F : Fun K "_law_h_doors" "_law_h_doors" s_law_h_doors f fd) (T : TxtS mg) (TM : TxtMx mg) (DO : Stands P w K mg base 1 "_law_draw" ["stream", "many"] spDraw) (MO : Stands P w K mg base 2 "_law_mixed" ["stream", "some"] (spMixed K)) : FnOk P w K mg base CX0 3 f fd ["stream", "rooms"] spHDoors := by
  obtain ⟨fM, dM, GM, mM, kM, bM⟩ := MO
  obtain ⟨fD, dD, GD, mD, kD, bD⟩ := DO
  refine F.ok scHd (fun vs H Q E h => ?_) (fun cdv A outer s H vs Q E hr h => ?_)
  · obtain ⟨a, l, p, n, rs, rfl, _⟩ := h
    rfl
  · obtain ⟨a, l, p, n, rs, rfl, hS, hp, ne, hl, nd, hn, k⟩ := h
    refine ⟨_, pss_cons (ps_par (i := 2) (j := 3) (by rfl) scHd.nd rfl rfl (by decide) rfl rfl (pa_cons (pe_call GD (hr.mono (by decide)) (by rfl) mD kD bD .nil pass0 (pa_cons (pv 0) (pa_cons pe_int pa_nil))) (pa_cons (pe_lst pa_nil) pa_nil)) (by rfl))
      (pss_cons (ps_for PassesOwn.never rfl (pi_range2 (by rfl) T.range (pa_cons pe_int (pa_cons (pe_callB call_len_seq (by rfl) T.len PySem.boot_len (pa_cons (pv 1) pa_nil)) pa_nil))) (pg_name (i := 4) scHd.nd rfl (Or.inl rfl))
        (pss_cons (ps_set (i := 5) scHd.nd rfl (Or.inl rfl) (pe_ix ix_list (pe_lst (pa_cons (pe_op op_sub (pv 4) pe_int) (pa_cons pe_int (pa_cons (pe_call GD (hr.mono (by decide)) (by rfl) mD kD bD .nil pass0 (pa_cons (pv 0) (pa_cons (pv 4) pa_nil))) (pa_cons (pe_callB (call_max2 rfl) (by rfl) TM.max PyProof.Rows.boot_max (pa_cons pe_int (pa_cons (pe_op op_sub (pe_op op_sub (pv 4) pe_int) (pe_call GD (hr.mono (by decide)) (by rfl) mD kD bD .nil pass0 (pa_cons (pv 0) (pa_cons pe_int pa_nil)))) pa_nil))) pa_nil))))) (pv 2) (fun _ _ => rfl)))
        (pss_cons (ps_set (i := 6) scHd.nd rfl (Or.inl rfl) (pe_tup (pa_cons (pe_ix ix_list (pv 1) (pv 5) (fun _ _ => rfl)) (pa_cons (pe_ix ix_list (pv 1) (pv 4) (fun _ _ => rfl)) pa_nil))))
        (pss_one (ps_expr (pe_bm PySem.F.plainAttrs_list PySem.F.slot_list_append PySem.F.type_list_append mt_append (pv 3) (pa_cons (pe_ifExp (pt_cmpR op_eq (pe_call GD (hr.mono (by decide)) (by rfl) mD kD bD .nil pass0 (pa_cons (pv 0) (pa_cons pe_int pa_nil))) pe_int (nomark _)) (pv 6) (pe_turn (pv 6))) pa_nil) (by rfl) (by rfl)))))))
      (pss_one (ps_ret (pe_call GM (hr.mono (by decide)) (by rfl) mM kM bM .nil pass0 (pa_cons (pv 0) (pa_cons (pv 3) pa_nil)))))), ?_⟩
    have pos := List.length_pos_iff.mpr ne
    refine ⟨_, rfl, a, l, n, 4, rfl, hS, by omega, by omega, by omega, fun H1 sh sb1 s1 sh0 sh1 => ?_⟩
    obtain ⟨j, rfl⟩ : ∃ j : Nat, sh = (j : Int) := ⟨sh.toNat, by omega⟩
    have g1 : Gs a l H H1 := Gs.of sb1 s1
    refine ⟨(by show 0 ≤ sizeLine; exact Nat.zero_le _), fun D hD => ?_⟩
    have DN : H D = none := g1.n _ hD
    refine ⟨_, _, rfl, ?_⟩
    have g2 : Gs a l H1 (upd H1 D (.lst [])) := (Gr.upd hD).gs
    have s2 : Spr (upd H1 D (.lst [])) a l (n + 1) := s1.stay (same_upd hD)
    have hp2 := (g1.trans g2).keep hS hp (ok_strs _)
    refine ⟨_, rfl, p, _, rfl, .inl (SqL.of hp2), 1, _, rfl, ⟨by decide, by decide, by rw [List.length_map]; omega, by rw [List.length_map]; omega⟩, ?_⟩
    rw [List.length_map]
    refine for_range (lo := 1) (n := ((rs.length : Int) - 1).toNat) (fun i σ' H' => ∃ (v4 v5 v6 : Option V) (ts : List Addr) (es : List Ed), σ' = [some (.ref a), some (.ref p), some (.int (j : Int)), some (.ref D), v4, v5, v6] ∧ Tree (rs.take (i + 1)) es ∧ H' D = some (.lst (ts.map V.ref)) ∧ TupsAt H' ts es ∧ Gs a l H H' ∧ Spr H' a l (n + 1 + 3 * i)) ?_ ?_ ?_
    · refine ⟨_, _, _, [], [], rfl, ?_, upd_same, .nil, g1.trans g2, s2⟩
      cases rs with
      | nil => exact absurd rfl ne
      | cons r rs => exact .one r
    · rintro i σ' H2 hi ⟨v4, v5, v6, ts, es, rfl, tr, q1, q2, q3, q4⟩
      have hi2 : i + 1 < rs.length := by omega
      obtain ⟨kk, ek⟩ : ∃ kk : Nat, kk = i + 1 := ⟨_, rfl⟩
      have ei : (1 : Int) + (i : Int) = (kk : Int) := by omega
      rw [ei]
      refine ⟨_, rfl, _, _, rfl, rfl, ?_⟩
      refine ⟨_, rfl, _, rfl, a, l, n + 1 + 3 * i, _, rfl, q4, by omega, by omega, by omega, fun H3 d2 sb3 s3 d20 d21 => ?_⟩
      have g3 : Gs a l H2 H3 := Gs.of sb3 s3
      refine ⟨_, rfl, _, _, rfl, rfl, ?_⟩
      refine ⟨_, rfl, a, l, n + 1 + 3 * i + 1, 2, rfl, s3, by omega, by omega, by omega, fun H4 d3 sb4 s4 d30 d31 => ?_⟩
      have g4 : Gs a l H3 H4 := Gs.of sb4 s4
      obtain ⟨d2, rfl⟩ : ∃ j : Nat, d2 = (j : Int) := ⟨d2.toNat, by omega⟩
      obtain ⟨d3, rfl⟩ : ∃ j : Nat, d3 = (j : Int) := ⟨d3.toNat, by omega⟩
      refine ⟨_, _, rfl, rfl, _, _, rfl, (by show 4 ≤ sizeLine; decide), fun L hL => ?_⟩
      have g5 : Gs a l H2 (upd H4 L (.lst [V.int ((kk : Int) - 1), V.int 0, V.int (d2 : Int), V.int (if (kk : Int) - 1 - (d3 : Int) > 0 then (kk : Int) - 1 - (d3 : Int) else 0)])) := (g3.trans g4).trans (Gr.upd hL).gs
      have s5 := s4.stay (same_upd (o := .lst [V.int ((kk : Int) - 1), V.int 0, V.int (d2 : Int), V.int (if (kk : Int) - 1 - (d3 : Int) > 0 then (kk : Int) - 1 - (d3 : Int) else 0)]) hL)
      obtain ⟨x, hx, ex⟩ := pick_at (k := kk) (d2 := d2) (d3 := d3) (j := j) (by omega) (by omega) (by omega) (by omega)
      refine ⟨_, rfl, L, _, _, _, rfl, rfl, SqL.of upd_same, ex, ?_⟩
      generalize eH5 : upd H4 L (.lst [V.int ((kk : Int) - 1), V.int 0, V.int (d2 : Int), V.int (if (kk : Int) - 1 - (d3 : Int) > 0 then (kk : Int) - 1 - (d3 : Int) else 0)]) = H5 at g5 s5
      have q35 := q3.trans g5
      have hp5 := q35.keep hS hp (ok_strs _)
      have hxr : x < rs.length := by omega
      have hkr : kk < rs.length := by omega
      refine ⟨_, rfl, _, rfl, p, _, _, .str rs[x], rfl, rfl, SqL.of hp5, atI_nat (j := x) (by rw [List.getElem?_map, List.getElem?_eq_getElem hxr]; rfl), ?_⟩
      refine ⟨_, rfl, _, rfl, p, _, _, .str rs[kk], rfl, rfl, SqL.of hp5, atI_nat (j := kk) (by rw [List.getElem?_map, List.getElem?_eq_getElem hkr]; rfl), ?_⟩
      refine ⟨(by show 2 ≤ sizeLine; decide), fun t ht => ?_⟩
      have g6 : Gs a l H2 (upd H5 t (.tup [.str rs[x], .str rs[kk]])) := g5.trans (Gr.upd ht).gs
      have s6 := s5.stay (same_upd (o := .tup [.str rs[x], .str rs[kk]]) ht)
      have q6 := g6.keep q4 q1 (ok_refs _)
      refine ⟨_, rfl, .inl ⟨rfl, _, SqL.of q6⟩, ?_⟩
      refine ⟨_, rfl, a, l, n + 1 + 3 * i + 2, 2, rfl, s6, by omega, by omega, by omega, fun H7 d7 sb7 s7 d70 d71 => ?_⟩
      have g7 : Gs a l H2 H7 := g6.trans (Gs.of sb7 s7)
      have g67 : Gs a l (upd H5 t (.tup [.str rs[x], .str rs[kk]])) H7 := Gs.of sb7 s7
      have t7 : H7 t = some (.tup [.str rs[x], .str rs[kk]]) := g67.keep s6 upd_same rfl
      have tk : rs.take (i + 1 + 1) = rs.take (i + 1) ++ [rs[kk]] := by
        subst ek
        exact (List.take_append_getElem hi2).symm
      have mx : rs[x] ∈ rs.take (i + 1) := List.mem_take_iff_getElem.mpr ⟨x, by omega, rfl⟩
      have nk : rs[kk] ∉ rs.take (i + 1) := by
        subst ek
        exact take_not nd hi2
      have few : (ts.map V.ref).length < sizeLine := by
        rw [List.length_map, paired_len q2]
        have := tree_len tr
        rw [List.length_take] at this
        exact Nat.lt_of_lt_of_le (show es.length < 100 by omega) (by decide)
      have Da := s1.na hD
      have Dl := s1.nl hD
      have en : n + 1 + 3 * (i + 1) = n + 1 + 3 * i + 3 := by omega
      have done : ∀ (H8 : Hp) (y : Addr) (e : Ed), Gs a l H2 H8 → H8 y = some (.tup [.str e.1, .str e.2]) → Spr H8 a l (n + 1 + 3 * i + 3) → (e = (rs[x], rs[kk]) ∨ e = (rs[kk], rs[x])) →
          ∃ (v4 v5 v6 : Option V) (us : List Addr) (es : List Ed), [some (V.ref a), some (.ref p), some (.int (j : Int)), some (.ref D), some (.int (kk : Int)), some (.int (x : Nat)), some (.ref t)] = [some (.ref a), some (.ref p), some (.int (j : Int)), some (.ref D), v4, v5, v6] ∧ Tree (rs.take (i + 1 + 1)) es ∧ upd H8 D (.lst (ts.map V.ref ++ [.ref y])) D = some (.lst (us.map V.ref)) ∧ TupsAt (upd H8 D (.lst (ts.map V.ref ++ [.ref y]))) us es ∧ Gs a l H (upd H8 D (.lst (ts.map V.ref ++ [.ref y]))) ∧ Spr (upd H8 D (.lst (ts.map V.ref ++ [.ref y]))) a l (n + 1 + 3 * (i + 1)) := fun H8 y e g8 ey s8 he => by
        have qD := g8.keep q4 q1 (ok_refs _)
        refine ⟨_, _, _, ts ++ [y], es ++ [e], rfl, ?_, ?_, ?_, (q3.trans g8).put DN, ?_⟩
        · rw [tk]
          exact .grow tr mx nk he
        · rw [upd_same, List.map_append]
          rfl
        · have r2 := paired_snoc (R := fun (t : Addr) (e : Ed) => H8 t = some (.tup [.str e.1, .str e.2])) (a := y) (b := e) ey (TupsAt.gs q2 q4 g8)
          refine Paired.imp (fun t e h => ?_) r2
          have nt : t ≠ D := ne_of h qD (by intro z; cases z)
          rw [upd_ne nt]
          exact h
        · rw [en]
          exact s8.updN Da Dl
      refine ⟨rfl, _, rfl, ?_⟩
      refine ite2 (fun _ => ?_) (fun _ => ?_)
      · exact ⟨_, rfl, D, _, _, rfl, rfl, g7.keep q4 q1 (ok_refs _), few, done H7 t (rs[x], rs[kk]) g7 t7 s7 (.inl rfl)⟩
      · refine ⟨_, rfl, t, _, _, rfl, t7, fun u nu => ?_⟩
        have g8 := g7.trans (Gr.upd (o := .tup [.str rs[kk], .str rs[x]]) nu).gs
        exact ⟨D, _, _, rfl, rfl, g8.keep q4 q1 (ok_refs _), few, done _ u (rs[kk], rs[x]) g8 upd_same (s7.stay (same_upd nu)) (.inr rfl)⟩
    · rintro σ' H2 ⟨v4, v5, v6, ts, es, rfl, tr, q1, q2, q3, q4⟩
      have el : ((rs.length : Int) - 1).toNat = rs.length - 1 := by omega
      rw [el] at tr q4
      rw [Nat.sub_add_cancel pos, List.take_length] at tr
      have le := tree_len tr
      have lts := paired_len q2
      refine ⟨_, rfl, _, rfl, a, l, D, _, ts.map V.ref, rfl, q4, .inl (SqL.of q1), (by rw [List.length_map]; omega), (by rw [List.length_map]; omega), fun H3 q ys sb3 s3 nq e3 py => ?_⟩
      obtain ⟨us, rfl, pu⟩ := perm_refs py
      have g3 : Gs a l H2 H3 := Gs.of sb3 s3
      obtain ⟨es', pe, pr⟩ := paired_permL pu.symm (TupsAt.gs q2 q4 g3)
      refine k H3 q us es' es _ ?_ tr pe.symm pr e3 (q3.trans g3) s3 (q3.n _ nq)
      rw [List.length_map]
      omega
end
end Lamp
set_option maxHeartbeats 8000000
namespace Lamp
open PySem PySem.Spec PyProof.Rows L2
/-! ### _law_h_house, _law_h_beside -/
theorem tree_good {rs : List Str} {es : List Ed} (t : Tree rs es) (l : rs.length ≤ 12) : GoodH rs es := by
  have le := tree_len t
  refine ⟨t.nodup, fun z => ?_, by omega, by omega, t.ends, t.joined, t.noring⟩
  rw [z] at le
  cases le
theorem nrm_refl : ∀ es : List Ed, Paired Nrm es es
  | [] => .nil
  | e :: es => .cons (.inl rfl) (nrm_refl es)
def spHHouse : Sp := fun vs H Q _ => ∃ (a l : Addr) (n : Nat) (m : Nat), vs = [.ref a, .int (m : Nat)] ∧ Spr H a l n ∧ 1 ≤ m ∧ m ≤ 12 ∧ n ≤ 800000 ∧
  ∀ H' t p q (rs : List Str) ts es k, k ≤ n + 100 → rs.length ≤ 12 → es.length < 30 → GoodH rs es → (∀ r ∈ rs, nameOk r = true) → H' p = some (.lst (rs.map V.str)) → TupsAt H' ts es → H' q = some (.lst (ts.map V.ref)) → H' t = some (.tup [.ref p, .ref q]) → Gs a l H H' → Spr H' a l k → Q (.ref t) H'
def spBesideM : Sp := fun vs H Q _ => ∃ (q : Addr) (r : Str) (ts : List Addr) (es : List Ed), vs = [.ref q, .str r] ∧ H q = some (.lst (ts.map V.ref)) ∧ TupsAt H ts es ∧ es.length < 30 ∧
  ∀ H' p (ys : List Str), (∀ o, o ∈ ys ↔ ((r, o) ∈ es ∨ (o, r) ∈ es)) → ys.length < 64 → Gr H H' → H p = none → H' p = some (.lst (ys.map V.str)) → Q (.ref p) H'
/-- behind the doors from r -/
def outs (r : Str) (es : List Ed) : List Str := es.filterMap fun e => if e.1 = r then some e.2 else none
def ins_ (r : Str) (es : List Ed) : List Str := es.filterMap fun e => if e.2 = r then some e.1 else none
theorem outs_mem {r o : Str} {es : List Ed} (h : o ∈ outs r es) : (r, o) ∈ es := by
  obtain ⟨e, he, z⟩ := List.mem_filterMap.mp h
  by_cases q : e.1 = r
  · rw [if_pos q] at z
    obtain rfl := Option.some.inj z
    subst q
    exact he
  · rw [if_neg q] at z
    cases z
theorem ins_mem {r o : Str} {es : List Ed} (h : o ∈ ins_ r es) : (o, r) ∈ es := by
  obtain ⟨e, he, z⟩ := List.mem_filterMap.mp h
  by_cases q : e.2 = r
  · rw [if_pos q] at z
    obtain rfl := Option.some.inj z
    subst q
    exact he
  · rw [if_neg q] at z
    cases z
section
variable {P : Program} {w : World} {K : PySem.W.Frag} {mg : Str → Option Value} {base : Heap} {C : Addr}
theorem scHH : FnScope ["stream", "most", "rooms"] ["stream", "most"] (defScope s_law_h_house) := ⟨rfl, rfl, rfl, by decide +kernel, rfl, by decide +kernel, by decide +kernel⟩
theorem ok_hhouse {f : Addr} {fd : FuncData} (F : Fun K "_law_h_house" "_law_h_house" s_law_h_house f fd) (DO : Stands P w K mg base 1 "_law_draw" ["stream", "many"] spDraw) (MO : Stands P w K mg base 2 "_law_mixed" ["stream", "some"] (spMixed K)) (NO : Stands P w K mg base 3 "_law_h_names" ["stream", "many"] spNames) (EO : Stands P w K mg base 3 "_law_h_doors" ["stream", "rooms"] spHDoors) : FnOk P w K mg base CX0 4 f fd ["stream", "most"] spHHouse := by
  obtain ⟨fM, dM, GM, mM, kM, bM⟩ := MO
  obtain ⟨fD, dD, GD, mD, kD, bD⟩ := DO
  obtain ⟨fN, dN, GN, mN, kN, bN⟩ := NO
  obtain ⟨fE, dE, GE, mE, kE, bE⟩ := EO
  refine F.ok scHH (fun vs H Q E h => ?_) (fun cdv A outer s H vs Q E hr h => ?_)
  · obtain ⟨a, l, n, m, rfl, _⟩ := h
    rfl
  · obtain ⟨a, l, n, m, rfl, hS, m1, m2, hn, k⟩ := h
    refine ⟨_, pss_cons (ps_set (i := 2) scHH.nd rfl (Or.inl rfl) (pe_call GN hr (by rfl) mN kN bN .nil pass0 (pa_cons (pv 0) (pa_cons (pe_op op_add pe_int (pe_call GD (hr.mono (by decide)) (by rfl) mD kD bD .nil pass0 (pa_cons (pv 0) (pa_cons (pv 1) pa_nil)))) pa_nil))))
      (pss_one (ps_ret (pe_tup (pa_cons (pe_call GM (hr.mono (by decide)) (by rfl) mM kM bM .nil pass0 (pa_cons (pv 0) (pa_cons (pv 2) pa_nil))) (pa_cons (pe_call GE hr (by rfl) mE kE bE .nil pass0 (pa_cons (pv 0) (pa_cons (pv 2) pa_nil))) pa_nil))))), ?_⟩
    refine ⟨_, rfl, _, rfl, _, rfl, a, l, n, _, rfl, hS, by omega, by omega, by omega, fun H1 d sb1 s1 d0 d1 => ?_⟩
    have g1 : Gs a l H H1 := Gs.of sb1 s1
    obtain ⟨j, rfl⟩ : ∃ j : Nat, d = (j : Int) := ⟨d.toNat, by omega⟩
    have ej : (1 : Int) + (j : Int) = ((1 + j : Nat) : Int) := by omega
    refine ⟨_, _, rfl, rfl, ?_⟩
    refine ⟨a, l, n + 1, 1 + j, by rw [← ej]; rfl, s1, by omega, by omega, by omega, fun H2 p rs lr nd ok g2 s2 np e2 => ?_⟩
    refine ⟨_, rfl, _, rfl, a, l, p, n + 1 + 12, rs.map V.str, rfl, s2, .inl (SqL.of e2), by rw [List.length_map]; omega, by rw [List.length_map]; omega, fun H3 q ys sb3 s3 nq e3 py => ?_⟩
    obtain ⟨zs, rfl, pz⟩ := perm_strs py
    rw [List.length_map] at s3
    have g3 : Gs a l H2 H3 := Gs.of sb3 s3
    have rne : rs ≠ [] := fun z => by
      rw [z] at lr
      simp at lr
      omega
    refine ⟨_, rfl, _, rfl, a, l, p, _, rs, rfl, s3, g3.keep s2 e2 (ok_strs _), rne, by omega, nd, by omega, fun H4 u ts es es0 k4 le4 tr pe te eu g4 s4 nu => ?_⟩
    refine ⟨(by show 2 ≤ sizeLine; decide), fun t nt => ?_⟩
    have g5 : Gs a l H4 (upd H4 t (.tup [.ref q, .ref u])) := (Gr.upd nt).gs
    have gd : GoodH zs es := (tree_good tr (by omega)).turn pz (nrm_refl es0) pe
    refine k _ t q u zs ts es k4 (by omega) (by rw [pz.length_eq]; omega) (by have := tree_len tr; rw [pe.length_eq]; omega) gd (fun r hr => ok r (pz.mem_iff.mp hr)) ?_ (TupsAt.gs te s4 g5) (g5.keep s4 eu (ok_refs _)) upd_same ((((g1.trans g2).trans g3).trans g4).trans g5) (s4.stay (same_upd nt))
    exact (g4.trans g5).keep s3 e3 (ok_strs _)
abbrev NHb : List Str := ["doors", "room", "found", "one", "other"]
theorem scHb : FnScope NHb ["doors", "room"] (defScope s_law_h_beside) := ⟨rfl, rfl, rfl, by decide +kernel, rfl, by decide +kernel, by decide +kernel⟩
theorem ok_besideM {f : Addr} {fd : FuncData} (F : Fun K "_law_h_beside" "_law_h_beside" s_law_h_beside f fd) (T : TxtK mg) : FnOk P w K mg base CX0 1 f fd ["doors", "room"] spBesideM := by
  refine F.ok scHb (fun vs H Q E h => ?_) (fun cdv A outer s H vs Q E hr h => ?_)
  · obtain ⟨q, r, ts, es, rfl, _⟩ := h
    rfl
  · obtain ⟨q, r, ts, es, rfl, hq, ht, hl, k⟩ := h
    refine ⟨_, pss_cons (ps_set (i := 2) scHb.nd rfl (Or.inl rfl) (pe_op op_cat
        (pe_lc (te := tVar 4) (own := [("one", 3), ("other", 4)]) (g := gTup K 2 (gCons (gName 3) (gCons (gName 4) gNil))) (tt := tTest (tOp rEq (tVar 3) (tVar 1))) rfl scHb.nd (pi_list (pv 0)) (blkOk_by (N := NHb) (sc := defScope s_law_h_beside) (by decide +kernel))
          (fun _ _ _ _ _ => pg_tup rfl (pgs_cons (pg_name (i := 3) scHb.nd rfl (Or.inl rfl)) (pgs_cons (pg_name (i := 4) scHb.nd rfl (Or.inl rfl)) pgs_nil))) (fun _ _ _ _ _ => by exact (pts_one (pt_cmpR op_eq (pv 3) (pv 1) (nomark _)))) (fun _ _ _ _ _ => pv 4))
        (pe_lc (te := tVar 3) (own := [("one", 3), ("other", 4)]) (g := gTup K 2 (gCons (gName 3) (gCons (gName 4) gNil))) (tt := tTest (tOp rEq (tVar 4) (tVar 1))) rfl scHb.nd (pi_list (pv 0)) (blkOk_by (N := NHb) (sc := defScope s_law_h_beside) (by decide +kernel))
          (fun _ _ _ _ _ => pg_tup rfl (pgs_cons (pg_name (i := 3) scHb.nd rfl (Or.inl rfl)) (pgs_cons (pg_name (i := 4) scHb.nd rfl (Or.inl rfl)) pgs_nil))) (fun _ _ _ _ _ => by exact (pts_one (pt_cmpR op_eq (pv 4) (pv 1) (nomark _)))) (fun _ _ _ _ _ => pv 3))))
      (pss_one (ps_ret (pe_callB cr_sortedS (by rfl) T.srt PyProof.Rows.boot_sorted (pa_cons (pv 2) pa_nil)))), ?_⟩
    have le : ts.length = es.length := paired_len ht
    have len1 : ∀ i, (outs r (es.take i)).length ≤ es.length := fun i => Nat.le_trans (List.length_filterMap_le _ _) (by rw [List.length_take]; exact Nat.min_le_right _ _)
    have len2 : ∀ i, (ins_ r (es.take i)).length ≤ es.length := fun i => Nat.le_trans (List.length_filterMap_le _ _) (by rw [List.length_take]; exact Nat.min_le_right _ _)
    refine ⟨_, rfl, q, rfl, ⟨_, SqL.of hq⟩, fun D hD => ?_⟩
    refine lc_it (walk_list (xs := ts.map V.ref)) (fun i H' => H' D = some (.lst ((outs r (es.take i)).map V.str)) ∧ Gr H H') ⟨upd_same, Gr.upd hD⟩ (fun i H' _ g => SqL.of (g.2.s _ _ hq)) ?_ ?_
    · rintro i v H' H'' hi ⟨q1, q2⟩ ⟨rfl, hv⟩
      rw [List.getElem?_map] at hv
      obtain ⟨t, et, rfl⟩ := Option.map_eq_some_iff.mp hv
      obtain ⟨e, ee, te⟩ := paired_at ht et
      have tk : es.take (i + 1) = es.take i ++ [e] := by
        rw [List.take_add_one, ee]
        rfl
      refine ⟨t, _, rfl, SqT.of (q2.s _ _ te), rfl, _, _, rfl, _, _, rfl, rfl, rfl, ?_⟩
      refine ⟨_, rfl, _, rfl, rfl, _, rfl, ?_⟩
      have ot : outs r (es.take (i + 1)) = outs r (es.take i) ++ outs r [e] := by
        unfold outs
        rw [tk, List.filterMap_append]
      by_cases c : e.1 = r
      · have oe : outs r [e] = [e.2] := by
          unfold outs
          rw [List.filterMap_cons, if_pos c]
          rfl
        refine iteT2 (by rw [c]; simp) ?_
        refine ⟨_, rfl, _, q1, ?_, ?_, q2.put hD⟩
        · rw [List.length_map]
          exact Nat.lt_of_lt_of_le (Nat.lt_of_le_of_lt (len1 i) hl) (by decide)
        · rw [upd_same, ot, oe, List.map_append]
          rfl
      · have oe : outs r [e] = [] := by
          unfold outs
          rw [List.filterMap_cons, if_neg c]
          rfl
        refine iteF2 (by simp [c]) ?_
        refine ⟨?_, q2⟩
        rw [ot, oe, List.append_nil]
        exact q1
    · rintro H1 ⟨q1, q2⟩
      rw [List.length_map, le, List.take_length] at q1
      refine ⟨_, rfl, q, rfl, ⟨_, SqL.of (q2.s _ _ hq)⟩, fun B hB => ?_⟩
      refine lc_it (walk_list (xs := ts.map V.ref)) (fun i H' => H' B = some (.lst ((ins_ r (es.take i)).map V.str)) ∧ Gr H1 H') ⟨upd_same, Gr.upd hB⟩ (fun i H' _ g => SqL.of ((q2.trans g.2).s _ _ hq)) ?_ ?_
      · rintro i v H' H'' hi ⟨w1, w2⟩ ⟨rfl, hv⟩
        rw [List.getElem?_map] at hv
        obtain ⟨t, et, rfl⟩ := Option.map_eq_some_iff.mp hv
        obtain ⟨e, ee, te⟩ := paired_at ht et
        have tk : es.take (i + 1) = es.take i ++ [e] := by
          rw [List.take_add_one, ee]
          rfl
        refine ⟨t, _, rfl, SqT.of ((q2.trans w2).s _ _ te), rfl, _, _, rfl, _, _, rfl, rfl, rfl, ?_⟩
        refine ⟨_, rfl, _, rfl, rfl, _, rfl, ?_⟩
        have ot : ins_ r (es.take (i + 1)) = ins_ r (es.take i) ++ ins_ r [e] := by
          unfold ins_
          rw [tk, List.filterMap_append]
        by_cases c : e.2 = r
        · have oe : ins_ r [e] = [e.1] := by
            unfold ins_
            rw [List.filterMap_cons, if_pos c]
            rfl
          refine iteT2 (by rw [c]; simp) ?_
          refine ⟨_, rfl, _, w1, ?_, ?_, w2.put hB⟩
          · rw [List.length_map]
            exact Nat.lt_of_lt_of_le (Nat.lt_of_le_of_lt (len2 i) hl) (by decide)
          · rw [upd_same, ot, oe, List.map_append]
            rfl
        · have oe : ins_ r [e] = [] := by
            unfold ins_
            rw [List.filterMap_cons, if_neg c]
            rfl
          refine iteF2 (by simp [c]) ?_
          refine ⟨?_, w2⟩
          rw [ot, oe, List.append_nil]
          exact w1
      · rintro H2 ⟨w1, w2⟩
        rw [List.length_map, le, List.take_length] at w1
        have l1 := len1 es.length
        have l2 := len2 es.length
        rw [List.take_length] at l1 l2
        refine ⟨D, B, _, _, rfl, rfl, w2.s _ _ q1, w1, (by rw [List.length_map, List.length_map]; exact Nat.le_trans (show (outs r es).length + (ins_ r es).length ≤ 100 by omega) (by decide)), fun p np => ?_⟩
        have g3 := (q2.trans w2).trans (Gr.upd (o := .lst ((outs r es).map V.str ++ (ins_ r es).map V.str)) np)
        have ep : upd H2 p (.lst ((outs r es).map V.str ++ (ins_ r es).map V.str)) p = some (.lst ((outs r es ++ ins_ r es).map V.str)) := by
          rw [upd_same, List.map_append]
        have ls : (outs r es ++ ins_ r es).length < 64 := by
          rw [List.length_append]
          omega
        refine ⟨_, rfl, p, outs r es ++ ins_ r es, rfl, .inl (.inl ep), ls, fun ys b py sy nb => ?_⟩
        refine k _ b ys (fun o => ⟨fun ho => ?_, fun ho => py.mem_iff.mpr ?_⟩) (by rw [py.length_eq]; exact ls) (g3.trans (Gr.upd nb)) (g3.n _ nb) upd_same
        · rcases List.mem_append.mp (py.mem_iff.mp ho) with z | z
          · exact .inl (outs_mem z)
          · exact .inr (ins_mem z)
        · rcases ho with z | z
          · exact List.mem_append_left _ (List.mem_filterMap.mpr ⟨_, z, if_pos rfl⟩)
          · exact List.mem_append_right _ (List.mem_filterMap.mpr ⟨_, z, if_pos rfl⟩)
end
end Lamp
set_option maxHeartbeats 8000000
namespace Lamp
open PySem PySem.Spec PyProof.Rows L2
/-! ### _law_h_carrying -/
theorem low_lets : (lets.cps.toList.all fun c => decide (c < 0x110000)) = true := by decide +kernel
theorem low_figs : (figs.cps.toList.all fun c => decide (c < 0x110000)) = true := by decide +kernel
theorem strOk_name {z : Str} (h : nameOk z = true) : PyData.strOk z = true := by
  obtain ⟨_, h⟩ := Bool.and_eq_true_iff.mp h
  obtain ⟨_, h⟩ := Bool.and_eq_true_iff.mp h
  obtain ⟨_, h⟩ := Bool.and_eq_true_iff.mp h
  show z.cps.all (fun c => decide (c < 0x110000)) = true
  rw [← Array.all_toList]
  refine List.all_eq_true.mpr fun c hc => ?_
  have q := List.all_eq_true.mp h c hc
  rcases Bool.or_eq_true_iff.mp q with q | q
  · exact List.all_eq_true.mp low_lets c (of_decide_eq_true q)
  · exact List.all_eq_true.mp low_figs c (of_decide_eq_true q)
theorem dpAll_strs {K : PySem.W.Frag} {H : Hp} : ∀ xs : List Str, DpAll K H (xs.map V.str) (xs.map PyData.str)
  | [] => .nil
  | c :: cs => .cons (.str c) (dpAll_strs cs)
theorem lay_strs : ∀ {xs : List Str}, (∀ x ∈ xs, PyData.strOk x = true) → PyData.canLayAll0 (xs.map PyData.str) = true
  | [], _ => rfl
  | c :: cs, h => by
    show (PyData.strOk c && PyData.canLayAll0 (cs.map PyData.str)) = true
    rw [lay_strs fun x hx => h x (List.mem_cons_of_mem _ hx), h c List.mem_cons_self]
    rfl
theorem shaped_strs {xs : List Str} (h : ∀ x ∈ xs, PyData.strOk x = true) : SeqAt.shaped (.list (xs.map PyData.str)) = true := by
  have e : PyData.depthAll (xs.map PyData.str) = 0 := by
    clear h
    induction xs with
    | nil => rfl
    | cons c cs ih =>
      show max (PyData.depth (.str c)) (PyData.depthAll (cs.map PyData.str)) = 0
      rw [ih]
      rfl
  have d : PyData.depth (.list (xs.map PyData.str)) ≤ 64 := by
    show PyData.depthAll (xs.map PyData.str) + 1 ≤ 64
    rw [e]
    decide
  show (PyData.canLayAll0 (xs.map PyData.str) && decide (PyData.depth (.list (xs.map PyData.str)) ≤ 64)) = true
  rw [lay_strs h, decide_eq_true d]
  rfl
theorem Car.snoc {rs : List Str} {ds : List Ed} {row : List Str} {x y : Str} (c : Car rs ds (row ++ [x])) (my : y ∈ rs) (n : Nxt ds x y) : Car rs ds (row ++ [x] ++ [y]) := by
  refine ⟨by simp, fun r hr => ?_, fun i a b h1 h2 => ?_⟩
  · rcases List.mem_append.mp hr with z | z
    · exact c.mem r z
    · rw [List.mem_singleton.mp z]
      exact my
  · rcases Nat.lt_trichotomy (i + 1) (row ++ [x]).length with lt | eq | gt
    · rw [List.getElem?_append_left (by omega)] at h1
      rw [List.getElem?_append_left lt] at h2
      exact c.nxt i a b h1 h2
    · rw [List.getElem?_append_left (by omega)] at h1
      rw [List.getElem?_append_right (by omega), eq, Nat.sub_self] at h2
      obtain rfl : y = b := Option.some.inj h2
      have ei : i = row.length := by simp at eq; omega
      rw [ei, List.getElem?_append_right (Nat.le_refl _), Nat.sub_self] at h1
      obtain rfl : x = a := Option.some.inj h1
      exact n
    · rw [List.getElem?_append_right (by omega)] at h2
      rw [List.getElem?_eq_none (by show 1 ≤ i + 1 - (row ++ [x]).length; omega)] at h2
      cases h2
def spHCarry : Sp := fun vs H Q _ => ∃ (a l p q : Addr) (n m : Nat) (rs : List Str) (ts : List Addr) (es ds : List Ed), vs = [.ref a, .ref p, .ref q, .int (m : Nat)] ∧ Spr H a l n ∧ H p = some (.lst (rs.map V.str)) ∧ H q = some (.lst (ts.map V.ref)) ∧ TupsAt H ts es ∧ rs ≠ [] ∧ rs.length < 60 ∧ es.length < 30 ∧ (∀ r ∈ rs, nameOk r = true) ∧ (∀ x y, (x, y) ∈ es ∨ (y, x) ∈ es → y ∈ rs ∧ y ∈ nearOf ds x) ∧ 1 ≤ m ∧ m ≤ 100 ∧ n ≤ 800000 ∧
  ∀ H' u row k, k ≤ n + 300 → Car rs ds row → row.length ≤ m → H' u = some (.lst (row.map V.str)) → H u = none → Gs a l H H' → Spr H' a l k → Q (.ref u) H'
section
variable {P : Program} {w : World} {K : PySem.W.Frag} {mg : Str → Option Value} {base : Heap} {C : Addr}
abbrev NHc : List Str := ["stream", "rooms", "doors", "most", "found", "k", "some"]
end
end Lamp
set_option maxHeartbeats 8000000
namespace Lamp
open PySem PySem.Spec PyProof.Rows L2
/-! ### _law_same: a dict from rooms to numbers, found as it is due -/
def TpAt (H : Hp) (ts : List Addr) (es : List (Str × Int)) : Prop := Paired (fun (t : Addr) (e : Str × Int) => H t = some (.tup [.str e.1, .int e.2])) ts es
/-- found and due alike, of a depth -/
def Tw : Nat → Hp → V → V → Prop
  | 0, _, x, y => (∃ s, x = .str s ∧ y = .str s) ∨ ∃ i, x = .int i ∧ y = .int i
  | 1, H, x, y => ∃ (a b : Addr) (s : Str) (i : Int), x = .ref a ∧ y = .ref b ∧ H a = some (.tup [.str s, .int i]) ∧ H b = some (.tup [.str s, .int i])
  | 2, H, x, y => ∃ (a b : Addr) (ts us : List Addr) (es : List (Str × Int)), x = .ref a ∧ y = .ref b ∧ H a = some (.lst (ts.map V.ref)) ∧ H b = some (.lst (us.map V.ref)) ∧ TpAt H ts es ∧ TpAt H us es ∧ es.length < 1000
  | _, H, x, y => ∃ (a b : Addr) (rs : List Str) (f : Str → Nat), x = .ref a ∧ y = .ref b ∧ H a = some (.dK (TM rs (NI f))) ∧ H b = some (.dK (TM rs (NI f))) ∧ rs.length < 1000
/-- what a level keeps of the heap -/
def Kp : Nat → Hp → Hp → Prop
  | 3, H, H' => Same H H'
  | _, H, H' => Gr H H'
def spSame (n : Nat) : Sp := fun vs H Q _ => ∃ x y, vs = [x, y] ∧ Tw n H x y ∧ ∀ H', Kp n H H' → Q (.bl true) H'
def spSameB : Nat → Sp
  | 0 => fun _ _ _ _ => False
  | n + 1 => spSame n
theorem walk_two {K : PySem.W.Frag} {a b : Addr} {xs ys : List V} (e : xs.length = ys.length) : Walk (RZ.ItzT K a b) xs.length (fun H => SqT K H a xs ∧ SqT K H b ys) (YPair (fun i => xs[i]?) (fun i => ys[i]?)) where
  goes := fun i _ lt g => by
    obtain ⟨g1, g2⟩ := g
    have lt2 : i < ys.length := e ▸ lt
    exact ⟨xs, ys, xs[i], ys[i], g1, g2, List.getElem?_eq_getElem lt, List.getElem?_eq_getElem lt2⟩
  stops := fun _ g => ⟨_, _, g.1, g.2, .inl (Nat.le_refl _)⟩
  yields := fun _ _ _ _ _ g y => by
    obtain ⟨T, p, q, y1, y2, y3, y4, y5⟩ := y
    exact ⟨T, p, q, y1, y2, y3, y4 _ g.1, y5 _ g.2⟩
theorem Tw.up : ∀ {n : Nat} {H H' : Hp} {x y : V}, n ≤ 2 → Tw n H x y → Gr H H' → Tw n H' x y
  | 0, _, _, _, _, _, t, _ => t
  | 1, _, _, _, _, _, ⟨a, b, s, i, h1, h2, h3, h4⟩, g => ⟨a, b, s, i, h1, h2, g.s _ _ h3, g.s _ _ h4⟩
  | 2, _, _, _, _, _, ⟨a, b, ts, us, es, h1, h2, h3, h4, h5, h6, h7⟩, g => ⟨a, b, ts, us, es, h1, h2, g.s _ _ h3, g.s _ _ h4, Paired.imp (fun _ _ e => g.s _ _ e) h5, Paired.imp (fun _ _ e => g.s _ _ e) h6, h7⟩
  | n + 3, _, _, _, _, l, _, _ => absurd l (by omega)
theorem tp_of {H : Hp} {f : Str → Nat} : ∀ {ts : List Addr} {rs : List Str}, Paired (fun (t : Addr) (q : Key × V) => H t = some (.tup [kV q.1, q.2])) ts (TM rs (NI f)) → TpAt H ts (rs.map fun r => (r, (f r : Int)))
  | [], [], _ => .nil
  | [], _ :: _, h => by cases h
  | _ :: _, [], h => by cases h
  | t :: ts, r :: rs, h => by
    cases h with
    | cons h1 h2 => exact .cons h1 (tp_of h2)
structure TxtSm (mg : Str → Option Value) : Prop where
  isi : mg "isinstance" = none
  list : mg "list" = none
  tuple : mg "tuple" = none
  dict : mg "dict" = none
  int : mg "int" = none
  bool : mg "bool" = none
  len : mg "len" = none
  all : mg "all" = none
  zip : mg "zip" = none
section
variable {P : Program} {w : World} {K : PySem.W.Frag} {mg : Str → Option Value} {base : Heap}
abbrev NSm : List Str := ["found", "due", "x", "y"]
theorem scSm : FnScope NSm ["found", "due"] (defScope s_law_same) := ⟨rfl, rfl, rfl, by decide +kernel, rfl, by decide +kernel, by decide +kernel⟩
theorem ok_same {f : Addr} {fd : FuncData} {n k : Nat} (n3 : n ≤ 3) (F : Fun K "_law_same" "_law_same" s_law_same f fd) (T : TxtSm mg) (S : Stands P w K mg base k "_law_same" ["found", "due"] (spSameB n)) : FnOk P w K mg base CX0 (k + 1) f fd ["found", "due"] (spSame n) := by
  obtain ⟨fs, ds, Gs, ms, ks, bs⟩ := S
  refine F.ok scSm (fun vs H Q E h => ?_) (fun cdv A outer s H vs Q E hr h => ?_)
  · obtain ⟨x, y, rfl, _⟩ := h
    rfl
  · obtain ⟨x, y, rfl, tw, kk⟩ := h
    refine ⟨_, pss_cons (ps_if (pt_val (pe_callB call_isiT (by rfl) T.isi PyProof.Rows.Boot.isinstance (pa_cons (pv 1) (pa_cons (pe_tup (pa_cons (pe_bltn (v := .ty "list") (by rfl) T.list PyProof.Rows.Boot.list rfl) (pa_cons (pe_bltn (v := .ty "tuple") (by rfl) T.tuple PyProof.Rows.Boot.tuple rfl) pa_nil))) pa_nil))))
        (pss_cons (ps_if (PW.pt (pw_or (pt_cmpR op_ne (pe_callB call_isi (by rfl) T.isi PyProof.Rows.Boot.isinstance (pa_cons (pv 0) (pa_cons (pe_bltn (v := .ty "list") (by rfl) T.list PyProof.Rows.Boot.list rfl) pa_nil))) (pe_callB call_isi (by rfl) T.isi PyProof.Rows.Boot.isinstance (pa_cons (pv 1) (pa_cons (pe_bltn (v := .ty "list") (by rfl) T.list PyProof.Rows.Boot.list rfl) pa_nil))) (nomark _))
            (pw_or1 (pt_cmpR op_ne (pe_callB call_isi (by rfl) T.isi PyProof.Rows.Boot.isinstance (pa_cons (pv 0) (pa_cons (pe_bltn (v := .ty "tuple") (by rfl) T.tuple PyProof.Rows.Boot.tuple rfl) pa_nil))) (pe_callB call_isi (by rfl) T.isi PyProof.Rows.Boot.isinstance (pa_cons (pv 1) (pa_cons (pe_bltn (v := .ty "tuple") (by rfl) T.tuple PyProof.Rows.Boot.tuple rfl) pa_nil))) (nomark _)))))
          pss_dead pss_nil)
        (pss_one (ps_ret (pe_and (pe_cmpR op_eq (pe_callB call_len_seq (by rfl) T.len PySem.boot_len (pa_cons (pv 0) pa_nil)) (pe_callB call_len_seq (by rfl) T.len PySem.boot_len (pa_cons (pv 1) pa_nil)) (nomark _))
          (pe_one (pe_callB (cr_all rfl) (by rfl) T.all PyProof.Rows.Boot.all (pa_cons
            (pe_lc (te := tCall (spSameB n) [] E0 (tCons (tVar 2) (tCons (tVar 3) tNil))) (own := [("x", 2), ("y", 3)]) (g := gTup K 2 (gCons (gName 2) (gCons (gName 3) gNil))) (tt := tYes) rfl scSm.nd (RZ.pi_zipA (by rfl) T.zip (pa_cons (pv 0) (pa_cons (pv 1) pa_nil))) (blkOk_by (N := NSm) (sc := defScope s_law_same) (by decide +kernel))
              (fun _ _ _ _ _ => pg_tup rfl (pgs_cons (pg_name (i := 2) scSm.nd rfl (Or.inl rfl)) (pgs_cons (pg_name (i := 3) scSm.nd rfl (Or.inl rfl)) pgs_nil))) (fun _ _ _ _ _ => pts_nil)
              (fun _ _ _ _ _ => by exact (pe_call Gs hr (by rfl) ms ks bs .nil pass0 (pa_cons (pv 2) (pa_cons (pv 3) pa_nil))))) pa_nil)))))))
        pss_nil)
      (pss_cons (ps_if (pt_val (pe_callB call_isi (by rfl) T.isi PyProof.Rows.Boot.isinstance (pa_cons (pv 1) (pa_cons (pe_bltn (v := .ty "dict") (by rfl) T.dict PyProof.Rows.Boot.dict rfl) pa_nil))))
        (pss_one (ps_ret (pe_and (pe_callB call_isi (by rfl) T.isi PyProof.Rows.Boot.isinstance (pa_cons (pv 0) (pa_cons (pe_bltn (v := .ty "dict") (by rfl) T.dict PyProof.Rows.Boot.dict rfl) pa_nil)))
          (pe_one (pe_call Gs hr (by rfl) ms ks bs .nil pass0 (pa_cons (LiI.pe_listItems rfl (pv 0) (by rfl) T.list PyProof.Rows.Boot.list) (pa_cons (LiI.pe_listItems rfl (pv 1) (by rfl) T.list PyProof.Rows.Boot.list) pa_nil)))))))
        pss_nil)
      (pss_cons (ps_if (pt_val (pe_callB call_isi (by rfl) T.isi PyProof.Rows.Boot.isinstance (pa_cons (pv 1) (pa_cons (pe_bltn (v := .ty "int") (by rfl) T.int PyProof.Rows.Boot.int rfl) pa_nil))))
        (pss_one (ps_ret (pe_and (pe_callB call_isi (by rfl) T.isi PyProof.Rows.Boot.isinstance (pa_cons (pv 0) (pa_cons (pe_bltn (v := .ty "int") (by rfl) T.int PyProof.Rows.Boot.int rfl) pa_nil)))
          (pe_and (pe_cmpR op_eq (pe_callB call_isi (by rfl) T.isi PyProof.Rows.Boot.isinstance (pa_cons (pv 0) (pa_cons (pe_bltn (v := .ty "bool") (by rfl) T.bool PyProof.Rows.Boot.bool rfl) pa_nil))) (pe_callB call_isi (by rfl) T.isi PyProof.Rows.Boot.isinstance (pa_cons (pv 1) (pa_cons (pe_bltn (v := .ty "bool") (by rfl) T.bool PyProof.Rows.Boot.bool rfl) pa_nil))) (nomark _))
          (pe_one (pe_cmpR op_eq (pv 0) (pv 1) (nomark _)))))))
        pss_nil)
      (pss_one (ps_ret (pe_and (pe_not (pe_callB call_isiT (by rfl) T.isi PyProof.Rows.Boot.isinstance (pa_cons (pv 0) (pa_cons (pe_tup (pa_cons (pe_bltn (v := .ty "int") (by rfl) T.int PyProof.Rows.Boot.int rfl) (pa_cons (pe_bltn (v := .ty "list") (by rfl) T.list PyProof.Rows.Boot.list rfl) (pa_cons (pe_bltn (v := .ty "tuple") (by rfl) T.tuple PyProof.Rows.Boot.tuple rfl) (pa_cons (pe_bltn (v := .ty "dict") (by rfl) T.dict PyProof.Rows.Boot.dict rfl) pa_nil))))) pa_nil))))
        (pe_one (pe_cmpR op_eq (pv 0) (pv 1) (nomark _)))))))), ?_⟩
    refine ⟨_, rfl, (by show 2 ≤ sizeLine; decide), fun q nq => ?_⟩
    have g1 := Gr.upd (o := .tup [.ty "list", .ty "tuple"]) nq
    have two : ∀ {a b : Bool}, (!decide (V.bl a = V.bl a)) = false := fun {a b} => by simp
    match n, tw, kk with
    | 0, tw, kk =>
      rcases tw with ⟨s, rfl, rfl⟩ | ⟨i, rfl, rfl⟩
      · refine ⟨.str s, q, _, .type "str", _, false, rfl, upd_same, .cons (.ty _) (.cons (.ty _) .nil), .base (.str s), kitAny_cons (b := false) (kit_ty (by decide +kernel)) (fun _ => kitAny_cons (b := false) (kit_ty (by decide +kernel)) (fun _ => kitAny_nil) fun z => by cases z) (fun z => by cases z), _, rfl, iteF ?_⟩
        refine ⟨_, rfl, .str s, .ty "dict", _, _, false, rfl, .ty _, .base (.str s), kit_ty (by decide +kernel), _, rfl, iteF ?_⟩
        refine ⟨_, rfl, .str s, .ty "int", _, _, false, rfl, .ty _, .base (.str s), kit_ty (by decide +kernel), _, rfl, iteF ?_⟩
        refine ⟨_, rfl, (by show 4 ≤ sizeLine; decide), fun q2 nq2 => ?_⟩
        refine ⟨.str s, q2, _, .type "str", _, false, rfl, upd_same, .cons (.ty _) (.cons (.ty _) (.cons (.ty _) (.cons (.ty _) .nil))), .base (.str s), kitAny_cons (b := false) (kit_ty (by decide +kernel)) (fun _ => kitAny_cons (b := false) (kit_ty (by decide +kernel)) (fun _ => kitAny_cons (b := false) (kit_ty (by decide +kernel)) (fun _ => kitAny_cons (b := false) (kit_ty (by decide +kernel)) (fun _ => kitAny_nil) fun z => by cases z) fun z => by cases z) fun z => by cases z) (fun z => by cases z), false, rfl, true, rfl, iteT ?_⟩
        refine ⟨_, rfl, _, rfl, rfl, ?_⟩
        rw [decide_eq_true rfl]
        exact kk _ (g1.trans (Gr.upd nq2))
      · refine ⟨.int i, q, _, .type "int", _, false, rfl, upd_same, .cons (.ty _) (.cons (.ty _) .nil), .base (.int i), kitAny_cons (b := false) (kit_ty (by decide +kernel)) (fun _ => kitAny_cons (b := false) (kit_ty (by decide +kernel)) (fun _ => kitAny_nil) fun z => by cases z) (fun z => by cases z), _, rfl, iteF ?_⟩
        refine ⟨_, rfl, .int i, .ty "dict", _, _, false, rfl, .ty _, .base (.int i), kit_ty (by decide +kernel), _, rfl, iteF ?_⟩
        refine ⟨_, rfl, .int i, .ty "int", _, _, true, rfl, .ty _, .base (.int i), kit_ty (by decide +kernel), _, rfl, iteT ?_⟩
        refine ⟨_, rfl, .int i, .ty "int", _, _, true, rfl, .ty _, .base (.int i), kit_ty (by decide +kernel), true, rfl, iteT ?_⟩
        refine ⟨_, rfl, .int i, .ty "bool", _, _, false, rfl, .ty _, .base (.int i), kit_ty (by decide +kernel), _, rfl, .int i, .ty "bool", _, _, false, rfl, .ty _, .base (.int i), kit_ty (by decide +kernel), rfl, true, rfl, iteT ?_⟩
        refine ⟨_, rfl, _, rfl, rfl, ?_⟩
        rw [decide_eq_true rfl]
        exact kk _ g1
    | 1, tw, kk =>
      obtain ⟨a, b, s, i, rfl, rfl, ha, hb⟩ := tw
      have ha1 := g1.s _ _ ha
      have hb1 := g1.s _ _ hb
      refine ⟨.ref b, q, _, .type "tuple", _, true, rfl, upd_same, .cons (.ty _) (.cons (.ty _) .nil), .base (.tup hb1), kitAny_cons (b := false) (kit_ty (by decide +kernel)) (fun _ => kitAny_cons (b := true) (kit_ty (by decide +kernel)) (fun z => by cases z) fun _ => rfl) (fun z => by cases z), _, rfl, iteT ?_⟩
      refine ⟨_, rfl, .ref a, .ty "list", _, _, false, rfl, .ty _, .base (.tup ha1), kit_ty (by decide +kernel), _, rfl, .ref b, .ty "list", _, _, false, rfl, .ty _, .base (.tup hb1), kit_ty (by decide +kernel), rfl, _, rfl, iteF2 (by rfl) ?_⟩
      refine ⟨_, rfl, .ref a, .ty "tuple", _, _, true, rfl, .ty _, .base (.tup ha1), kit_ty (by decide +kernel), _, rfl, .ref b, .ty "tuple", _, _, true, rfl, .ty _, .base (.tup hb1), kit_ty (by decide +kernel), rfl, _, rfl, iteF2 (by rfl) ?_⟩
      refine ⟨_, rfl, a, _, rfl, .inr (SqT.of ha1), _, rfl, b, _, rfl, .inr (SqT.of hb1), rfl, true, rfl, iteT ?_⟩
      refine ⟨_, rfl, _, rfl, a, b, _, _, rfl, .inr ⟨SqT.of ha1, SqT.of hb1, fun B hB => ?_⟩⟩
      refine lc_it (walk_two (xs := [.str s, .int i]) (ys := [.str s, .int i]) rfl) (fun j H' => H' B = some (.lst ((List.replicate j true).map V.bl)) ∧ Gr (upd H q (.tup [.ty "list", .ty "tuple"])) H') ⟨upd_same, Gr.upd hB⟩ (fun j H' _ g => ⟨SqT.of (g.2.s _ _ ha1), SqT.of (g.2.s _ _ hb1)⟩) ?_ ?_
      · rintro j v H' H'' hj ⟨w1, w2⟩ ⟨T0, x0, y0, rfl, nT, rfl, e3, e4⟩
        have exy : x0 = y0 := Option.some.inj (e3.symm.trans e4)
        subst exy
        have t0 : Tw 0 (upd H' T0 (.tup [x0, x0])) x0 x0 := by
          match j, e3 with
          | 0, e3 => exact .inl ⟨s, (Option.some.inj e3).symm, (Option.some.inj e3).symm⟩
          | 1, e3 => exact .inr ⟨i, (Option.some.inj e3).symm, (Option.some.inj e3).symm⟩
        refine ⟨T0, _, rfl, SqT.of upd_same, rfl, _, _, rfl, _, _, rfl, rfl, rfl, ?_⟩
        have u1 := Gr.upd (o := .tup [x0, x0]) nT
        refine ⟨_, rfl, _, rfl, x0, x0, rfl, t0, fun H3 g3 => ⟨_, g3.s _ _ (u1.s _ _ w1), ?_, ?_, ((w2.trans u1).trans g3).put hB⟩⟩
        · rw [List.length_map, List.length_replicate]
          exact Nat.lt_of_lt_of_le hj (by show 2 ≤ sizeLine; decide)
        · rw [upd_same, List.replicate_succ', List.map_append]
          rfl
      · rintro H' ⟨w1, w2⟩
        refine ⟨B, List.replicate 2 true, rfl, .inl (.inl w1), ?_⟩
        exact kk _ (g1.trans w2)
    | 2, tw, kk =>
      obtain ⟨a, b, ts, us, es, rfl, rfl, ha, hb, pa, pb, le⟩ := tw
      have ha1 := g1.s _ _ ha
      have hb1 := g1.s _ _ hb
      refine ⟨.ref b, q, _, .type "list", _, true, rfl, upd_same, .cons (.ty _) (.cons (.ty _) .nil), .base (.lst hb1), kitAny_cons (b := true) (kit_ty (by decide +kernel)) (fun z => by cases z) (fun _ => rfl), _, rfl, iteT ?_⟩
      refine ⟨_, rfl, .ref a, .ty "list", _, _, true, rfl, .ty _, .base (.lst ha1), kit_ty (by decide +kernel), _, rfl, .ref b, .ty "list", _, _, true, rfl, .ty _, .base (.lst hb1), kit_ty (by decide +kernel), rfl, _, rfl, iteF2 (by rfl) ?_⟩
      refine ⟨_, rfl, .ref a, .ty "tuple", _, _, false, rfl, .ty _, .base (.lst ha1), kit_ty (by decide +kernel), _, rfl, .ref b, .ty "tuple", _, _, false, rfl, .ty _, .base (.lst hb1), kit_ty (by decide +kernel), rfl, _, rfl, iteF2 (by rfl) ?_⟩
      have l1 : ts.length = es.length := paired_len pa
      have l2 : us.length = es.length := paired_len pb
      refine ⟨_, rfl, a, _, rfl, .inl (SqL.of ha1), _, rfl, b, _, rfl, .inl (SqL.of hb1), rfl, true, ?_, iteT ?_⟩
      · rw [List.length_map, List.length_map, l1, l2, decide_eq_true rfl]
      refine ⟨_, rfl, _, rfl, a, b, _, _, rfl, .inl ⟨SqL.of ha1, SqL.of hb1, fun B hB => ?_⟩⟩
      refine lc_it (walk_zip (xs := ts.map V.ref) (ys := us.map V.ref) (n := es.length) (by rw [List.length_map, List.length_map, l1, l2, Nat.min_self])) (fun j H' => H' B = some (.lst ((List.replicate j true).map V.bl)) ∧ Gr (upd H q (.tup [.ty "list", .ty "tuple"])) H') ⟨upd_same, Gr.upd hB⟩ (fun j H' _ g => ⟨SqL.of (g.2.s _ _ ha1), SqL.of (g.2.s _ _ hb1)⟩) ?_ ?_
      · rintro j v H' H'' hj ⟨w1, w2⟩ ⟨T0, x0, y0, rfl, nT, rfl, e3, e4⟩
        replace e3 : (ts.map V.ref)[j]? = some x0 := e3
        replace e4 : (us.map V.ref)[j]? = some y0 := e4
        rw [List.getElem?_map] at e3 e4
        obtain ⟨t, et, rfl⟩ := Option.map_eq_some_iff.mp e3
        obtain ⟨u, eu, rfl⟩ := Option.map_eq_some_iff.mp e4
        obtain ⟨e, ee, te⟩ := paired_at pa et
        obtain ⟨e', ee', ue⟩ := paired_at pb eu
        obtain rfl : e = e' := Option.some.inj (ee.symm.trans ee')
        have u1 := Gr.upd (o := .tup [.ref t, .ref u]) nT
        have gx := (g1.trans w2).trans u1
        refine ⟨T0, _, rfl, SqT.of upd_same, rfl, _, _, rfl, _, _, rfl, rfl, rfl, ?_⟩
        refine ⟨_, rfl, _, rfl, .ref t, .ref u, rfl, ⟨t, u, e.1, e.2, rfl, rfl, gx.s _ _ te, gx.s _ _ ue⟩, fun H3 g3 => ⟨_, g3.s _ _ (u1.s _ _ w1), ?_, ?_, ((w2.trans u1).trans g3).put hB⟩⟩
        · rw [List.length_map, List.length_replicate]
          exact Nat.lt_of_lt_of_le (Nat.lt_trans hj le) (by decide)
        · rw [upd_same, List.replicate_succ', List.map_append]
          rfl
      · rintro H' ⟨w1, w2⟩
        refine ⟨B, List.replicate es.length true, rfl, .inl (.inl w1), ?_⟩
        have e : (List.replicate es.length true).all id = true := List.all_eq_true.mpr fun b hb => (List.eq_of_mem_replicate hb)
        rw [e]
        exact kk _ (g1.trans w2)
    | 3, tw, kk =>
      obtain ⟨a, b, rs, f, rfl, rfl, ha, hb, lr⟩ := tw
      have ha1 := g1.s _ _ ha
      have hb1 := g1.s _ _ hb
      refine ⟨.ref b, q, _, .type "dict", _, false, rfl, upd_same, .cons (.ty _) (.cons (.ty _) .nil), .base (.dK hb1), kitAny_cons (b := false) (kit_ty (by decide +kernel)) (fun _ => kitAny_cons (b := false) (kit_ty (by decide +kernel)) (fun _ => kitAny_nil) fun z => by cases z) (fun z => by cases z), _, rfl, iteF ?_⟩
      refine ⟨_, rfl, .ref b, .ty "dict", _, _, true, rfl, .ty _, .base (.dK hb1), kit_ty (by decide +kernel), _, rfl, iteT ?_⟩
      refine ⟨_, rfl, .ref a, .ty "dict", _, _, true, rfl, .ty _, .base (.dK ha1), kit_ty (by decide +kernel), true, rfl, iteT ?_⟩
      refine ⟨_, rfl, a, _, rfl, ha1, fun H2 p ts k2 np _ _ ep tp => ?_⟩
      refine ⟨_, rfl, b, _, rfl, k2 _ _ hb1, fun H3 p' us k3 np' _ _ ep' tp' => ?_⟩
      refine ⟨.ref p, .ref p', rfl, ⟨p, p', ts, us, _, rfl, rfl, k3 _ _ ep, ep', Paired.imp (fun _ _ e => k3 _ _ e) (tp_of tp), tp_of tp', by rw [List.length_map]; exact lr⟩, fun H4 g4 => ?_⟩
      exact kk _ fun x o e => g4.s _ _ (k3 _ _ (k2 _ _ (g1.s _ _ e)))
end
end Lamp
set_option maxHeartbeats 8000000
namespace Lamp
open PySem PySem.Spec PyProof.Rows L2
/-! ### _law_many_stays -/
structure TxtMs (mg : Str → Option Value) : Prop where
  dict : mg "dict" = none
  len : mg "len" = none
  srt : mg "sorted" = none
/-- of room r -/
def runs (L : List (Str × Nat)) (r : Str) : Nat := (L.filter fun e => decide (e.1 = r)).length
theorem tm_merge {nv : Str → V} : ∀ {rs ks : List Str}, (ks ++ rs).Nodup → mergeK (TM ks nv) (TM rs nv) = TM (ks ++ rs) nv
  | [], ks, _ => by
    rw [List.append_nil]
    rfl
  | r :: rs, ks, h => by
    have h2 : ((ks ++ [r]) ++ rs).Nodup := by
      rw [List.append_assoc]
      exact h
    have m : r ∉ ks := fun z => (List.nodup_append.mp h).2.2 r z r List.mem_cons_self rfl
    show mergeK (putK (TM ks nv) (Sum.inr r) (nv r)) (TM rs nv) = _
    rw [tm_new m]
    have e : TM (ks ++ [r]) (putV nv r (nv r)) = TM (ks ++ [r]) nv := tm_ext fun x _ => by
      unfold putV
      by_cases q : x = r
      · rw [if_pos q, q]
      · rw [if_neg q]
    rw [e, tm_merge h2, List.append_assoc]
    rfl
section
variable {P : Program} {w : World} {K : PySem.W.Frag} {mg : Str → Option Value} {base : Heap}
def spMany : Sp := fun vs H Q _ => ∃ (p t : Addr) (rs : List Str) (ts : List Addr) (L : List (Str × Nat)), vs = [.ref p, .ref t] ∧ H p = some (.lst (rs.map V.str)) ∧ rs.Nodup ∧ rs.length < 60 ∧ H t = some (.lst (ts.map V.ref)) ∧ RnAt H ts L ∧ L.length < 1000 ∧
  ∀ H' d rs', rs'.Perm rs → sortedS rs' = true → H' d = some (.dK (TM rs' (NI (runs L)))) → Gr H H' → H d = none → Q (.ref d) H'
abbrev scMsB : Scope := { kind := .function, names := [(".0", .local), ("room", .cell), ("len", .globalImplicit), ("told", .cell)], isGenerator := false, isCoroutine := false }
abbrev NMs : List Str := ["rooms", "told", "room", "one"]
end
end Lamp
set_option maxHeartbeats 8000000
namespace Lamp
open PySem PySem.Spec PyProof.Rows L2
/-! ### pairs as data, steps of a way, sums -/
def pd (e : Ed) : PyData := .tuple [.str e.1, .str e.2]
theorem pd_eq (x y : Ed) : PyData.eqv (pd x) (pd y) = decide (x = y) := by
  obtain ⟨a, b⟩ := x
  obtain ⟨c, d⟩ := y
  unfold pd
  simp only [PyData.eqv, PyData.eqvAll]
  rw [Bool.eq_iff_iff]
  simp
theorem any_pd {es : List Ed} {e : Ed} : ((es.map pd).any fun z => PyData.eqv z (pd e)) = decide (e ∈ es) := by
  rw [Bool.eq_iff_iff, List.any_eq_true, decide_eq_true_iff]
  refine ⟨fun ⟨z, m, q⟩ => ?_, fun m => ⟨pd e, List.mem_map.mpr ⟨e, m, rfl⟩, by rw [pd_eq, decide_eq_true rfl]⟩⟩
  obtain ⟨x, mx, rfl⟩ := List.mem_map.mp m
  rw [pd_eq] at q
  rw [← of_decide_eq_true q]
  exact mx
theorem shaped_pd {e : Ed} (h1 : PyData.strOk e.1 = true) (h2 : PyData.strOk e.2 = true) : SeqAt.shaped (pd e) = true := by
  have l : PyData.canLayAll0 [PyData.str e.1, PyData.str e.2] = true := lay_strs (xs := [e.1, e.2]) fun x hx => by
    rcases List.mem_cons.mp hx with rfl | hx
    · exact h1
    · rw [List.mem_singleton.mp hx]
      exact h2
  have d : PyData.depth (pd e) ≤ 64 := by
    show PyData.depthAll [PyData.str e.1, PyData.str e.2] + 1 ≤ 64
    show max 0 (max 0 0) + 1 ≤ 64
    decide
  show (PyData.canLayAll0 [PyData.str e.1, PyData.str e.2] && decide (PyData.depth (pd e) ≤ 64)) = true
  rw [l, decide_eq_true d]
  rfl
theorem dp_pd {K : PySem.W.Frag} {H : Hp} {t : Addr} {e : Ed} (h : H t = some (.tup [.str e.1, .str e.2])) : Dp K H (.ref t) (pd e) := .tup (SqT.of h) (.cons (.str _) (.cons (.str _) .nil))
theorem dpAll_pd {K : PySem.W.Frag} {H : Hp} : ∀ {ts : List Addr} {es : List Ed}, TupsAt H ts es → DpAll K H (ts.map V.ref) (es.map pd)
  | [], [], _ => .nil
  | [], _ :: _, h => by cases h
  | _ :: _, [], h => by cases h
  | t :: ts, e :: es, h => by
    cases h with
    | cons h1 h2 => exact .cons (dp_pd h1) (dpAll_pd h2)
theorem lay_pds : ∀ {es : List Ed}, (∀ e ∈ es, PyData.strOk e.1 = true ∧ PyData.strOk e.2 = true) → PyData.canLayAll0 (es.map pd) = true ∧ PyData.depthAll (es.map pd) ≤ 1
  | [], _ => ⟨rfl, Nat.zero_le _⟩
  | e :: es, h => by
    obtain ⟨h1, h2⟩ := lay_pds (es := es) fun x hx => h x (List.mem_cons_of_mem _ hx)
    obtain ⟨q1, q2⟩ := h e List.mem_cons_self
    have s := shaped_pd q1 q2
    have s2 : (PyData.canLay0 (pd e) && decide (PyData.depth (pd e) ≤ 64)) = true := s
    rw [Bool.and_eq_true] at s2
    refine ⟨?_, ?_⟩
    · show (PyData.canLay0 (pd e) && PyData.canLayAll0 (es.map pd)) = true
      rw [s2.1, h1]
      rfl
    · show max (PyData.depth (pd e)) (PyData.depthAll (es.map pd)) ≤ 1
      have d : PyData.depth (pd e) = 1 := rfl
      omega
theorem shaped_pds {es : List Ed} (h : ∀ e ∈ es, PyData.strOk e.1 = true ∧ PyData.strOk e.2 = true) : SeqAt.shaped (.list (es.map pd)) = true := by
  obtain ⟨h1, h2⟩ := lay_pds h
  have d : PyData.depth (.list (es.map pd)) ≤ 64 := by
    show PyData.depthAll (es.map pd) + 1 ≤ 64
    omega
  show (PyData.canLayAll0 (es.map pd) && decide (PyData.depth (.list (es.map pd)) ≤ 64)) = true
  rw [h1, decide_eq_true d]
  rfl
/-- the steps of a way -/
def stp (u : List Str) : List Ed := u.zip (u.drop 1)
theorem stp_mem {u : List Str} {a b : Str} : (a, b) ∈ stp u ↔ ∃ j, j + 1 < u.length ∧ at_ u j = a ∧ at_ u (j + 1) = b := by
  unfold stp
  constructor
  · intro m
    obtain ⟨j, e⟩ := List.getElem?_of_mem m
    rw [List.getElem?_zip_eq_some, List.getElem?_drop] at e
    obtain ⟨e1, e2⟩ := e
    rw [Nat.add_comm] at e2
    exact ⟨j, (List.getElem?_eq_some_iff.mp e2).1, at_some e1, at_some e2⟩
  · rintro ⟨j, lt, h1, h2⟩
    refine List.mem_of_getElem? (i := j) ?_
    rw [List.getElem?_zip_eq_some, List.getElem?_drop]
    refine ⟨by rw [at_lt (by omega), h1], ?_⟩
    rw [Nat.add_comm, at_lt lt, h2]
theorem trs_stp {u : List Str} (nd : u.Nodup) (a b : Str) : trs u a b u.length = if (a, b) ∈ stp u then 1 else 0 := by
  have le := trs_one (a := a) (b := b) nd (Nat.le_refl u.length)
  by_cases m : (a, b) ∈ stp u
  · rw [if_pos m]
    obtain ⟨j, lt, h1, h2⟩ := stp_mem.mp m
    have := trs_of lt h1 h2
    omega
  · rw [if_neg m]
    rcases Nat.eq_zero_or_pos (trs u a b u.length) with z | z
    · exact z
    · obtain ⟨j, lt, h1, h2⟩ := trs_pos z
      exact absurd (stp_mem.mpr ⟨j, lt, h1, h2⟩) m
theorem cut_one {u : List Str} (ne : 0 < u.length) (small : u.length < 100) : cutV (u.map V.str) (some 1) none = (u.drop 1).map V.str := by
  have e1 : HT.sIx (u.map V.str).length 0 (some 1) = 1 := by
    unfold HT.sIx
    simp
    omega
  have e2 : HT.sIx (u.map V.str).length (u.map V.str).length none = u.length := by
    unfold HT.sIx
    simp
  unfold cutV
  rw [e1, e2, List.take_of_length_le (by rw [List.length_drop, List.length_map]; exact Nat.le_refl _), List.map_drop]
theorem tups_zip {H : Hp} : ∀ {ts : List Addr} {xs ys : List Str}, Paired (fun (t : Addr) (q : V × V) => H t = some (.tup [q.1, q.2])) ts ((xs.map V.str).zip (ys.map V.str)) → TupsAt H ts (xs.zip ys)
  | [], [], _, _ => .nil
  | [], _ :: _, [], _ => .nil
  | [], x :: xs, y :: ys, h => by cases h
  | t :: ts, [], _, h => by cases h
  | t :: ts, _ :: _, [], h => by cases h
  | t :: ts, x :: xs, y :: ys, h => by
    cases h with
    | cons h1 h2 => exact .cons h1 (tups_zip h2)
theorem row_at0 {row : List Str} (ne : row ≠ []) : atI (row.map V.str) 0 = some (.str (at_ row 0)) := by
  cases row with
  | nil => exact absurd rfl ne
  | cons x row =>
    have e : ixN ((x :: row).map V.str).length 0 = some 0 := by
      unfold ixN
      rw [if_pos (by decide), if_pos (by rw [List.length_map, List.length_cons]; omega)]
      rfl
    unfold atI
    rw [e]
    rfl
theorem row_atl {row : List Str} (ne : row ≠ []) : atI (row.map V.str) (-1) = some (.str (at_ row (row.length - 1))) := by
  have e : row = row.dropLast ++ [row.getLast ne] := (List.dropLast_concat_getLast ne).symm
  have z : at_ row (row.length - 1) = row.getLast ne := at_some (by
    rw [List.getLast_eq_getElem]
    exact List.getElem?_eq_getElem _)
  rw [z]
  generalize row.getLast ne = x at e
  rw [e, List.map_append]
  exact atI_last _ _
/-- all of a row are counted in some room -/
theorem count_all {rs : List Str} (nd : rs.Nodup) : ∀ {row : List Str}, (∀ r ∈ row, r ∈ rs) → (rs.map fun r => row.count r).sum = row.length
  | [], _ => sum_zero fun y _ => rfl
  | x :: row, h => by
    have ih := count_all nd (row := row) fun r hr => h r (List.mem_cons_of_mem _ hr)
    have e : (fun r : Str => (x :: row).count r) = fun r => row.count r + if x = r then 1 else 0 := by
      funext r
      rw [List.count_cons]
      by_cases q : x = r
      · rw [if_pos q, if_pos (by rw [q]; exact beq_self_eq_true r)]
      · rw [if_neg q, if_neg (by rw [beq_eq_false_iff_ne.mpr q]; exact Bool.false_ne_true)]
    rw [e, sum_add, ih, sum_ind (g := fun _ => 1) nd (h x List.mem_cons_self)]
    rfl
theorem int_sum {α : Type} {c : α → Nat} : ∀ {l : List α}, (l.map fun e => ((c e : Nat) : Int)).sum = ((l.map c).sum : Nat)
  | [] => rfl
  | x :: l => by
    rw [List.map_cons, List.sum_cons, List.map_cons, List.sum_cons, int_sum]
    omega
theorem sum_filter {α : Type} {c : α → Nat} {p : α → Bool} : ∀ {l : List α}, ((l.filter p).map c).sum = (l.map fun e => if p e = true then c e else 0).sum
  | [] => rfl
  | x :: l => by
    by_cases q : p x = true
    · rw [List.filter_cons_of_pos q, List.map_cons, List.sum_cons, List.map_cons, List.sum_cons, if_pos q, sum_filter]
    · rw [List.filter_cons_of_neg q, List.map_cons, List.sum_cons, if_neg q, sum_filter, Nat.zero_add]
/-- passes to and from a room -/
theorem gone_sum {rs : List Str} {ds : List Ed} (gd : GoodH rs ds) {row : List Str} (car : Car rs ds row) (r : Str) : (((prs rs ds).filter fun e => decide (r ∈ [e.1, e.2])).map fun e => trs row e.1 e.2 row.length).sum = gon row r row.length := by
  rw [sum_filter, ← trs_sum (ps := prs rs ds) (r := r) (i := row.length) (prs_nodup gd) (fun p hp => ?_) (fun j hj ne _ => ?_)]
  · congr 1
    refine List.map_congr_left fun e _ => ?_
    have q : (decide (r ∈ [e.1, e.2]) = true) = (e.1 = r ∨ e.2 = r) := by
      rw [decide_eq_true_iff]
      simp only [List.mem_cons, List.not_mem_nil, or_false]
      exact propext ⟨fun z => z.imp Eq.symm Eq.symm, fun z => z.imp Eq.symm Eq.symm⟩
    simp only [q]
  · obtain ⟨a, b⟩ := p
    obtain ⟨ha, hb⟩ := prs_mem.mp hp
    exact (near_in gd.ends hb).2.2
  · have lt : j < row.length := by omega
    refine prs_mem.mpr ⟨car.mem _ (List.mem_of_getElem? (at_lt lt)), ?_⟩
    rcases car.nxt j _ _ (at_lt lt) (at_lt hj) with z | z
    · exact absurd z.symm ne
    · exact z
/-! ### a dict of pairs of rooms, its items in another order -/
def Its (H : Hp) (c : Ed → Nat) (t : Addr) (x : Ed × Addr) : Prop := H t = some (.tup [.ref x.2, .int (c x.1 : Int)]) ∧ H x.2 = some (.tup ((kE x.1).map kV))
theorem its_of {H H' : Hp} (s : Same H H') {c : Ed → Nat} : ∀ {ps : List Ed} {qs ts : List Addr}, Paired (fun (q : Addr) (kv : List Key × V) => H q = some (.tup (kv.1.map kV))) qs (PT ps c) → Paired (fun (t : Addr) (x : V × V) => H' t = some (.tup [x.1, x.2])) ts ((qs.map V.ref).zip ((PT ps c).map (·.2))) →
    ∃ Ls : List (Ed × Addr), Ls.map (·.1) = ps ∧ Paired (Its H' c) ts Ls
  | [], [], [], _, _ => ⟨[], rfl, .nil⟩
  | [], [], _ :: _, _, h => by cases h
  | [], _ :: _, _, h, _ => by cases h
  | _ :: _, [], _, h, _ => by cases h
  | p :: ps, q :: qs, [], _, h => by cases h
  | p :: ps, q :: qs, t :: ts, h, h' => by
    cases h with
    | cons h1 h2 =>
      cases h' with
      | cons h3 h4 =>
        obtain ⟨Ls, e, r⟩ := its_of s (ps := ps) h2 h4
        exact ⟨(p, q) :: Ls, by rw [List.map_cons, e], .cons ⟨h3, s _ _ h1⟩ r⟩
theorem its_dict {H : Hp} {c : Ed → Nat} : ∀ {ts : List Addr} {Ls : List (Ed × Addr)}, Paired (Its H c) ts Ls → Paired (fun (t : Addr) (e : List Key × Addr × V) => H t = some (.tup [.ref e.2.1, e.2.2]) ∧ H e.2.1 = some (.tup (e.1.map kV))) ts (Ls.map fun x => (kE x.1, x.2, V.int (c x.1 : Int)))
  | [], [], _ => .nil
  | [], _ :: _, h => by cases h
  | _ :: _, [], h => by cases h
  | t :: ts, x :: Ls, h => by
    cases h with
    | cons h1 h2 => exact .cons h1 (its_dict h2)
theorem put_all {c : Ed → Nat} : ∀ {Ls : List (Ed × Addr)} {ks : List Ed}, (ks ++ Ls.map (·.1)).Nodup → putAll (PT ks c) (Ls.map fun x => (kE x.1, x.2, V.int (c x.1 : Int))) = PT (ks ++ Ls.map (·.1)) c
  | [], ks, _ => by
    rw [List.map_nil, List.map_nil, List.append_nil]
    rfl
  | x :: Ls, ks, h => by
    have h2 : ((ks ++ [x.1]) ++ Ls.map (·.1)).Nodup := by
      rw [List.append_assoc]
      exact h
    have m : x.1 ∉ ks := fun z => (List.nodup_append.mp h).2.2 x.1 z x.1 List.mem_cons_self rfl
    show putAll (putK (PT ks c) (kE x.1) (V.int (c x.1 : Int))) (Ls.map fun x => (kE x.1, x.2, V.int (c x.1 : Int))) = _
    rw [pt_new m]
    have e : PT (ks ++ [x.1]) (putC c x.1 (c x.1)) = PT (ks ++ [x.1]) c := pt_ext fun p _ => by
      unfold putC
      by_cases q : p = x.1
      · rw [if_pos q, q]
      · rw [if_neg q]
    rw [e, put_all h2, List.append_assoc]
    rfl
end Lamp
set_option maxHeartbeats 8000000
namespace Lamp
open PySem PySem.Spec PyProof.Rows L2
/-! ### what the spring leaves as it is -/
theorem Sb.kept {a l b : Addr} {H H' : Hp} {n : Nat} {o : HO} (g : Sb a l H H') (p : Spr H a l n) (h : H b = some o) (ok : okO o = true) : H' b = some o := by
  obtain ⟨ne, cs, cur, mix, h1, h2, _, _⟩ := p
  refine g b o h (fun z => ?_) (fun z => ?_)
  · rw [z, h1] at h
    rw [← Option.some.inj h] at ok
    cases ok
  · rw [z, h2] at h
    rw [← Option.some.inj h] at ok ⊢
    cases cs with
    | nil => rfl
    | cons c cs => cases ok
theorem HouseAt.sb {a l : Addr} {n : Nat} {H H' : Hp} {C h : Addr} {rs : List Str} {ds : List Ed} (hh : HouseAt H C h rs ds) (p : Spr H a l n) (g : Sb a l H H') : HouseAt H' C h rs ds := by
  obtain ⟨dx, ra, da, na, ts, h1, h2, h3, h4, nf, h5, h6⟩ := hh.at_
  exact ⟨dx, ra, da, na, ts, g.kept p h1 rfl, g.kept p h2 (ok_strs _), g.kept p h3 (ok_refs _), Paired.imp (fun _ _ e => g.kept p e rfl) h4, nf, g.kept p h5 rfl, fun r hr => g.kept p (h6 r hr) (ok_strs _)⟩
theorem TupsAt.sb {a l : Addr} {n : Nat} {H H' : Hp} {ts : List Addr} {es : List Ed} (h : TupsAt H ts es) (p : Spr H a l n) (g : Sb a l H H') : TupsAt H' ts es := Paired.imp (fun _ _ e => g.kept p e rfl) h
theorem beside_of {rs : List Str} {es ds : List Ed} (en : ∀ e ∈ es, e.1 ∈ rs ∧ e.2 ∈ rs ∧ e.1 ≠ e.2) (nr : ∀ e ∈ es, ∃ d ∈ ds, Nrm d e) {x y : Str} (h : (x, y) ∈ es ∨ (y, x) ∈ es) : y ∈ rs ∧ y ∈ nearOf ds x := by
  have go : ∀ {a b : Str}, (a, b) ∈ ds → a ≠ b → b ∈ nearOf ds a ∧ a ∈ nearOf ds b := fun {a b} m ne => ⟨near_mem.mpr ⟨_, m, .inl ⟨rfl, rfl⟩⟩, near_mem.mpr ⟨_, m, .inr ⟨ne, rfl, rfl⟩⟩⟩
  rcases h with h | h
  · obtain ⟨e1, e2, e3⟩ := en _ h
    obtain ⟨d, md, z⟩ := nr _ h
    obtain ⟨p, q⟩ := d
    refine ⟨e2, ?_⟩
    rcases z with z | z
    · obtain ⟨rfl, rfl⟩ := Prod.mk.inj z
      exact (go md e3).1
    · obtain ⟨rfl, rfl⟩ := Prod.mk.inj z
      exact (go md (Ne.symm e3)).2
  · obtain ⟨e1, e2, e3⟩ := en _ h
    obtain ⟨d, md, z⟩ := nr _ h
    obtain ⟨p, q⟩ := d
    refine ⟨e1, ?_⟩
    rcases z with z | z
    · obtain ⟨rfl, rfl⟩ := Prod.mk.inj z
      exact (go md e3).2
    · obtain ⟨rfl, rfl⟩ := Prod.mk.inj z
      exact (go md (Ne.symm e3)).1
end Lamp
set_option maxHeartbeats 4000000
namespace Lamp
open PySem PySem.Spec PyProof.Rows L2
/-! ### enumerate of a list or of a tuple -/
theorem meets_enum1 {x : Value} {it : Obj} {G : Heap → Prop} (B : Begins x it G) :
    Meets (Builtin.«enumerate.__new__» ⟨[.type "enumerate", x], []⟩) fun _ R s => G s.heap ∧ R (.ok (.ret (.ref (s.heap.push it).objs.size)))
      { s with heap := (s.heap.push it).push { cls := .type "enumerate", data := .fields #[.none, .bool false, .ref s.heap.objs.size, rawInt 0, .none, .none] } } :=
  .of_wp fun prog w A R s k => by
    obtain ⟨h0, gs, dr, tk, os⟩ := s
    obtain ⟨k1, k2⟩ := k
    have sub := sub_enumerate
    have begin_ : ∀ {A1 : Around} {E1 Q1 : Value → Shared → Prop}, Q1 (.ref h0.objs.size) ⟨h0.push it, gs, dr, tk, os⟩ → wpAny (model prog w) A1 (pyIter x) Q1 E1 ⟨h0, gs, dr, tk, os⟩ := fun q => B.iter prog w _ _ _ _ k1 q
    wp_walk using begin_
    refine wpAny_stack_any fun _ => wpAny_pure ?_
    split
    · rename_i c _ _ _ _ _
      cases (c == Value.type "enumerate")
      all_goals
        wp_walk using begin_
        exact ⟨_, rfl, k2⟩
    · wp_walk using begin_
      exact ⟨_, rfl, k2⟩
theorem enum_new {prog : Program} {w : World} {A : Around} {E : Value → Shared → Prop} {s : Shared} {x : Value} {it : Obj} {G : Heap → Prop} {Q : Value → Shared → Prop} (B : Begins x it G) (g : G s.heap)
    (k : ∀ h, IsEnum h (s.heap.objs.size + 1) s.heap.objs.size 0 .none → h.get? s.heap.objs.size = some it → (∀ b o, s.heap.get? b = some o → h.get? b = some o) → Q (.ref (s.heap.objs.size + 1)) { s with heap := h }) :
    wpAny (model prog w) A (call (.type "enumerate") [x]) Q E s := by
  refine callType_new F.called_enumerate (by decide) (F.typeCall_enumerate_1 _) (F.newCall_enumerate_1 _) (fun _ => F.args_object_init_2 _ _) F.entry_enumerate_new (meets_enum1 B) ⟨g, ?_⟩
  have z : (s.heap.push it).objs.size = s.heap.objs.size + 1 := size_push' _ _
  have e : IsEnum ((s.heap.push it).push { cls := .type "enumerate", data := .fields #[.none, .bool false, .ref s.heap.objs.size, rawInt 0, .none, .none] }) (s.heap.objs.size + 1) s.heap.objs.size 0 .none := by
    have q := Heap.get?_push_size (s.heap.push it) (o := { cls := .type "enumerate", data := .fields #[.none, .bool false, .ref s.heap.objs.size, rawInt 0, .none, .none] }) rfl
    rw [z] at q
    exact q
  show _ ∧ _
  rw [z]
  exact ⟨⟨_, e, rfl⟩, k _ e (Heap.get?_push_of_some _ (Heap.get?_push_size _ B.free)) fun b o y => Heap.get?_push_of_some _ (Heap.get?_push_of_some _ y)⟩
/-- the tuple at a, each item in a new pair -/
def ItT (K : PySem.W.Frag) (a : Addr) : It where
  go := fun i H => ∃ (xs : List V) (x : V), SqT K H a xs ∧ xs[i]? = some x
  yld := fun i H v H' => ∃ T x, v = .ref T ∧ H T = none ∧ H' = upd H T (.tup [.int (i : Nat), x]) ∧ ∀ ys, SqT K H a ys → ys[i]? = some x
  stop := fun i H => ∃ xs : List V, SqT K H a xs ∧ xs.length = i
theorem turn_tup {P : Program} {w : World} {K : PySem.W.Frag} {elts : List Expr} {n : Nat} {pos : Pos} {a e it : Addr} {us : List Value} {h0 : Heap} (ne : e ≠ it) (na : a ≠ it) (nea : e ≠ a) :
    Turn P w K (.Tuple elts n pos) (ItT K a) [e, it] e (fun i h => (∃ old, IsEnum h e it ((i : Nat) : Int) old) ∧ h.IsTupleIter it a i) where
  mem := List.mem_cons_self
  obj := fun i h st b m => by
    obtain ⟨⟨old, h1⟩, o, h2, h3, h4⟩ := st
    rcases List.mem_cons.mp m with rfl | m
    · exact ⟨_, h1, fun v q => nomatch q⟩
    · obtain rfl := List.mem_singleton.mp m
      exact ⟨o, h2, fun v q => by rw [h4] at q; cases q⟩
  keep := fun i h g st k => ⟨let ⟨old, h1⟩ := st.1; ⟨old, k e (by simp) _ h1⟩, st.2.at fun o q => k it (by simp) o q⟩
  item := by
    intro X hP hw hK calm i pins s σ H E I free st hg
    subst hP hw hK
    obtain ⟨⟨old, h1⟩, h2⟩ := st
    obtain ⟨xs, x, hq, hx⟩ := hg
    obtain ⟨its, rel, tup, _⟩ := I.tuple hq
    obtain ⟨u, hu, ru⟩ := rel.get hx
    have l1 : e < s.heap.objs.size := Heap.lt_size h1
    have l2 : it < s.heap.objs.size := let ⟨_, q, _⟩ := h2; Heap.lt_size q
    have ll := rel.length
    have lt : i < its.length := (List.getElem?_eq_some_iff.mp hu).1
    have D : Draws X.prog X.w X.A.in1 it [it, a] its.toArray.size (fun i v => its.toArray[i]? = some v) (fun i h => h.IsTupleIter it a i ∧ h.IsTuple a its.toArray) := Draws.tuple (A := X.A.in1) (show X.A.in1.handled = none from I.ok.hd calm) it a na its.toArray
    refine wpAny_pyNext_enum_itemD D h1 ⟨h2, tup⟩ (by simpa using lt) ne (by simp [ne, nea]) fun v h' tk hv ho st' hT size keep => ?_
    obtain rfl : v = u := by
      have q : its.toArray[i]? = some v := hv
      rw [List.getElem?_toArray, hu] at q
      exact (Option.some.inj q).symm
    refine ⟨_, rfl, wpAny_letOwnedTupleGo_enum (s := { s with heap := h', toks := tk + 1 }) ho fun h'' he' sb => ?_⟩
    have hT2 : h''.get? s.heap.objs.size = some { cls := .type "tuple", data := .seq #[.int i tk, v] } := (sb.2 _ (Nat.ne_of_gt l1)).trans hT
    have new : ObjOk X.prog X.w (upd H s.heap.objs.size (.tup [.int (i : Nat), x])) h'' s.heap.objs.size (.tup [.int (i : Nat), x]) := ⟨by show 2 ≤ sizeLine; decide, [.int i tk, v], .cons ⟨_, rfl⟩ (.cons ru .nil), ⟨_, hT2, rfl, _, rfl⟩⟩
    have I1 : Inv X pins σ (upd H s.heap.objs.size (.tup [.int (i : Nat), x])) { s with heap := h'', toks := tk + 1 } :=
      I.turnedNew (ch := [e, it]) (fun b o hb q => (sb.2 b (fun z => hb (by simp [z]))).trans (keep b o (fun z => hb (by simp [z])) (fun z => hb (by simp [z])) q)) free (Nat.le_refl _) new
    refine ⟨.ref s.heap.objs.size, _, I1, rfl, ⟨_, x, rfl, I.hok.fresh (Nat.le_refl _), rfl, fun ys hy => by rw [I.tuple_inj hy hq]; exact hx⟩, ⟨⟨v, ?_⟩, st'.1.at fun o q => (sb.2 it (Ne.symm ne)).trans q⟩, fun b m => ?_⟩
    · rw [show ((i + 1 : Nat) : Int) = (i : Int) + 1 from by omega]
      exact he'
    · have lb : b < s.heap.objs.size := by
        rcases List.mem_cons.mp m with rfl | m
        · exact l1
        · rw [List.mem_singleton.mp m]
          exact l2
      rw [upd_ne (Nat.ne_of_lt lb)]
      exact (free b m).1
  done := by
    intro X hP hw hK calm i pins s σ H E I free st hg
    subst hP hw hK
    obtain ⟨⟨old, h1⟩, h2⟩ := st
    obtain ⟨xs, hq, hx⟩ := hg
    obtain ⟨its, rel, tup, _⟩ := I.tuple hq
    obtain ⟨f0, f1, f2, f3, f4, f5⟩ := free it (by simp)
    have ll := rel.length
    have D : Draws X.prog X.w X.A.in1 it [it, a] its.toArray.size (fun i v => its.toArray[i]? = some v) (fun i h => h.IsTupleIter it a i ∧ h.IsTuple a its.toArray) := Draws.tuple (A := X.A.in1) (show X.A.in1.handled = none from I.ok.hd calm) it a na its.toArray
    have ei : its.toArray.size = i := by
      rw [List.size_toArray, ← hx]
      exact ll.symm
    refine wpAny_pyNext_enum_endD D h1 (by rw [ei]; exact ⟨h2, tup⟩) fun h' eb => ⟨rfl, I.turned (t' := s.toks) (fun b o m q => eb b o m q) f0 f1 f3 f4 f5⟩
  self := fun A i s Q E st k => let ⟨⟨_, h1⟩, _⟩ := st; wpAny_pyIter_enum h1 k
/-- enumerate(x), x a list or a tuple -/
def iEnumA (K : PySem.W.Frag) (ta : TA) : TI := fun σ H R => ta σ H fun vs H1 => ∃ a xs, vs = [.ref a] ∧ ((SqL K H1 a xs ∧ R (Ite K a) H1) ∨ (SqT K H1 a xs ∧ R (ItT K a) H1))
theorem pi_enumA {X : Cx} {e : Expr} {ta : TA} {p pos tpos : Pos} {elts : List Expr} {n : Nat} (g : Gl X "enumerate") (m : X.mg "enumerate" = none) (ha : PA X [e] ta) (hs : starEach [e] X.env = [(false, eval e X.env)] := by rfl) :
    PI X (.Tuple elts n tpos) (.Call (.Name "enumerate" p) [e] [] pos) (iEnumA X.K ta) := by
  refine ⟨fun pins s σ H R I h => ?_⟩
  refine Call_ (ld_blt I g m boot_enumerate (PyProof.Rows.callWith_type1 (thn (ha.run pos pins s σ H _ I h) fun us s1 ⟨vs, H1, I1, r1, q1⟩ => ?_) hs rfl))
  obtain ⟨a, xs, rfl, q1⟩ := q1
  obtain ⟨u, rfl, ru⟩ := vals1 r1
  obtain rfl : u = Value.ref a := ru
  have above : ∀ b ∈ [s1.heap.objs.size + 1, s1.heap.objs.size], FpOk X pins H1 b := fun b hb => by
    have le : s1.heap.objs.size ≤ b := by
      rcases List.mem_cons.mp hb with rfl | hb
      · exact Nat.le_succ _
      · exact Nat.le_of_eq (List.mem_singleton.mp hb).symm
    exact I1.fpOk le (I1.hok.fresh le)
  rcases q1 with ⟨hq, q⟩ | ⟨hq, q⟩
  · obtain ⟨its, rv, p', hz⟩ := I1.list hq
    refine call_enumerate_list p'.isList fun h' he hit hsz hk => wpAny_pyIter_enum he ?_
    have I2 : Inv X pins σ H1 { s1 with heap := h' } := I1.kept (t' := s1.toks) hk
    exact ⟨_, _, _, _, H1, rfl, I2, turn_enum a (s1.heap.objs.size + 1) s1.heap.objs.size, ⟨⟨.none, he⟩, hit, Nat.succ_ne_self _⟩, above, q⟩
  · obtain ⟨its, rv, tup, hz⟩ := I1.tuple hq
    have la : a < s1.heap.objs.size := let ⟨_, e, _⟩ := tup; Heap.lt_size e
    refine enum_new (begins_tuple a its.toArray) tup fun h' he hit hk => wpAny_pyIter_enum he ?_
    have I2 : Inv X pins σ H1 { s1 with heap := h' } := I1.kept (t' := s1.toks) hk
    exact ⟨_, _, _, _, H1, rfl, I2, turn_tup (us := its) (h0 := s1.heap) (Nat.succ_ne_self _) (Nat.ne_of_lt la) (Nat.ne_of_gt (Nat.lt_succ_of_lt la)), ⟨⟨.none, he⟩, _, hit, rfl, rfl⟩, above, q⟩
theorem walk_enumT {K : PySem.W.Frag} {a : Addr} {xs : List V} : Walk (ItT K a) xs.length (fun H => SqT K H a xs) (YPair (fun i => some (.int (i : Nat))) (fun i => xs[i]?)) where
  goes := fun i _ lt g => ⟨xs, xs[i], g, List.getElem?_eq_getElem lt⟩
  stops := fun _ g => ⟨xs, g, rfl⟩
  yields := fun _ _ _ _ _ g y => by
    obtain ⟨T, x, y1, y2, y3, y4⟩ := y
    exact ⟨T, _, x, y1, y2, y3, rfl, y4 _ g⟩
end Lamp
set_option maxHeartbeats 8000000
namespace Lamp
open PySem PySem.Spec PyProof.Rows L2
/-! ### House.has, may_follow, carrying_fault of anything -/
/-- a text, or what is known to be none -/
def Knw (K : PySem.W.Frag) (H : Hp) (v : V) : Prop := (∃ z, v = .str z) ∨ ∃ t, (∀ H', Same H H' → TyX K H' v t) ∧ PySem.W.kitOne K t (.type "str") = some false
theorem Knw.up {K : PySem.W.Frag} {H H' : Hp} {v : V} (k : Knw K H v) (s : Same H H') : Knw K H' v := by
  rcases k with k | ⟨t, h1, h2⟩
  · exact .inl k
  · exact .inr ⟨t, fun H2 s2 => h1 H2 (s.trans s2), h2⟩
def isStr : V → Bool
  | .str _ => true
  | _ => false
def mayV (rs : List Str) (ds : List Ed) (ah v : V) : Bool := match v with
  | .str z => decide (z ∈ rs) && (match ah with
    | .str a => decide (z = a) || decide (z ∈ nearOf ds a)
    | _ => true)
  | _ => false
def faultV (rs : List Str) (ds : List Ed) : V → List V → Nat → Option Nat
  | _, [], _ => none
  | ah, v :: vs, i => if mayV rs ds ah v then faultV rs ds v vs (i + 1) else some i
def ofO : Option Nat → V
  | none => .non
  | some i => .int (i : Int)
theorem Knw.odd {K : PySem.W.Frag} {H : Hp} {v : V} (k : Knw K H v) (n : isStr v = false) : ∃ t, (∀ H', Same H H' → TyX K H' v t) ∧ PySem.W.kitOne K t (.type "str") = some false := by
  rcases k with ⟨z, rfl⟩ | k
  · cases n
  · exact k
section
variable {P : Program} {w : World} {K : PySem.W.Frag} {mg : Str → Option Value} {base : Heap} {C : Addr}
def spHasA (K : PySem.W.Frag) (C : Addr) : Sp := fun vs H Q _ => ∃ (h : Addr) (v : V) (rs : List Str) (ds : List Ed), vs = [.ref h, v] ∧ HouseAt H C h rs ds ∧ ((∃ z, v = .str z ∧ Q (.bl (decide (z ∈ rs))) H) ∨ ∃ t, TyX K H v t ∧ PySem.W.kitOne K t (.type "str") = some false ∧ Q (.bl false) H)
theorem ok_hasA {f : Addr} {fd : FuncData} (F : Fun K "has" "House.has" m_House_has f fd) (T : TxtI mg) (c : ClsH K C) : FnOk P w K mg base CX0 1 f fd ["self", "thing"] (spHasA K C) := by
  refine F.ok scHh (fun vs H Q E h => ?_) (fun cdv A outer s H vs Q E hr h => ?_)
  · obtain ⟨h, v, rs, ds, rfl, _⟩ := h
    rfl
  · obtain ⟨h, v, rs, ds, rfl, a, k⟩ := h
    obtain ⟨dx, ra, da, na, ts, h1, h2, h3, h4, nf, h5, h6⟩ := a.at_
    refine ⟨_, pss_one (ps_ret (pe_and (pe_callB call_isi (by rfl) T.isi PyProof.Rows.Boot.isinstance (pa_cons (pv 1) (pa_cons (pe_bltn (v := .ty "str") (by rfl) T.str PyProof.Rows.Boot.str rfl) pa_nil)))
      (pe_one (pe_cmp (pc_din (Nat.lt_of_le_of_lt (Nat.add_le_add_left (by decide) _) hr.units) (pv 1) (pe_fld (f := "_near") (pv 0) (by rfl))))))), ?_⟩
    rcases k with ⟨z, rfl, k⟩ | ⟨t, ty, kt, k⟩
    · have g := DGet.k (k := Sum.inr z) h5
      refine ⟨_, rfl, .str z, .ty "str", _, _, true, rfl, .ty _, .base (.str z), kit_ty (by decide +kernel), true, rfl, ?_⟩
      rw [if_pos rfl]
      refine ⟨_, rfl, _, rfl, h, C, dx, _, _, rfl, h1, c.cls, c.nN, by rfl, na, _, rfl, g, ?_⟩
      rw [nm_dec]
      exact k
    · exact ⟨_, rfl, v, .ty "str", t, _, false, rfl, .ty _, ty, kt, false, rfl, iteF k⟩
/-- the method has, of anything -/
def HasAny (P : Program) (w : World) (K : PySem.W.Frag) (mg : Str → Option Value) (base : Heap) (C : Addr) : Prop := ∃ (f : Addr) (fd : FuncData), Meth K C "has" f ∧ FnOk P w K mg base CX0 1 f fd ["self", "thing"] (spHasA K C) ∧ L2.Binds K fd ["self", "thing"] []
def spMayA (K : PySem.W.Frag) (C : Addr) : Sp := fun vs H Q _ => ∃ (h : Addr) (ah v : V) (rs : List Str) (ds : List Ed), vs = [.ref h, ah, v] ∧ HouseAt H C h rs ds ∧ (ah = .non ∨ ∃ a, ah = .str a ∧ a ∈ rs) ∧ Knw K H v ∧ ∀ H', Gr H H' → Q (.bl (mayV rs ds ah v)) H'
end
end Lamp
set_option maxHeartbeats 8000000
namespace Lamp
open PySem PySem.Spec PyProof.Rows L2
/-- a list or a tuple -/
def RowA (K : PySem.W.Frag) (H : Hp) (a : Addr) (ws : List V) : Prop := (SqL K H a ws ∧ ∀ H', Same H H' → TyX K H' (.ref a) (.type "list")) ∨ (SqT K H a ws ∧ ∀ H', Same H H' → TyX K H' (.ref a) (.type "tuple"))
theorem Same.seqT {K : PySem.W.Frag} {H H' : Hp} {a : Addr} {xs : List V} (e : Same H H') (h : SqT K H a xs) : SqT K H' a xs := by
  rcases h with (z | ⟨o, z⟩) | z
  · exact .inl (.inl (e _ _ z))
  · exact .inl (.inr ⟨o, e _ _ z⟩)
  · exact .inr z
theorem RowA.up {K : PySem.W.Frag} {H H' : Hp} {a : Addr} {ws : List V} (r : RowA K H a ws) (s : Same H H') : RowA K H' a ws := by
  rcases r with ⟨h, t⟩ | ⟨h, t⟩
  · exact .inl ⟨Same.seq s h, fun H2 s2 => t H2 (s.trans s2)⟩
  · exact .inr ⟨Same.seqT s h, fun H2 s2 => t H2 (s.trans s2)⟩
theorem RowA.len {K : PySem.W.Frag} {H : Hp} {a : Addr} {ws : List V} (r : RowA K H a ws) : SqL K H a ws ∨ SqT K H a ws := r.imp (·.1) (·.1)
theorem RowA.row {K : PySem.W.Frag} {H : Hp} {a : Addr} {ws : List V} (r : RowA K H a ws) : ∃ t, (∀ H', Same H H' → TyX K H' (.ref a) t) ∧ PySem.W.kitAny K t [.type "list", .type "tuple"] = some true := by
  rcases r with ⟨_, t⟩ | ⟨_, t⟩
  · exact ⟨_, t, kitAny_cons (b := true) (kit_ty (by decide +kernel)) (fun z => by cases z) fun _ => rfl⟩
  · exact ⟨_, t, kitAny_cons (b := false) (kit_ty (by decide +kernel)) (fun _ => kitAny_cons (b := true) (kit_ty (by decide +kernel)) (fun z => by cases z) fun _ => rfl) (fun z => by cases z)⟩
theorem faultV_step {rs : List Str} {ds : List Ed} : ∀ {i : Nat} {ah : V} {ws : List V} {v : V} {o : Nat}, ws[i]? = some v → (∀ j, j < i → ∃ p q, (p = if j = 0 then ah else ws.getD (j - 1) .non) ∧ ws[j]? = some q ∧ mayV rs ds p q = true) →
    mayV rs ds (if i = 0 then ah else ws.getD (i - 1) .non) v = false → faultV rs ds ah ws o = some (o + i)
  | 0, ah, ws, v, o, h, _, n => by
    cases ws with
    | nil => cases h
    | cons x ws =>
      obtain rfl : x = v := Option.some.inj h
      rw [if_pos rfl] at n
      show (if mayV rs ds ah x = true then faultV rs ds x ws (o + 1) else some o) = _
      rw [n]
      rfl
  | i + 1, ah, ws, v, o, h, all, n => by
    cases ws with
    | nil => cases h
    | cons x ws =>
      obtain ⟨p, q, e1, e2, e3⟩ := all 0 (Nat.succ_pos i)
      obtain rfl : x = q := Option.some.inj e2
      rw [if_pos rfl] at e1
      subst e1
      show (if mayV rs ds p x = true then faultV rs ds x ws (o + 1) else some o) = _
      have e : ∀ k : Nat, (if k = 0 then x else ws.getD (k - 1) .non) = (x :: ws).getD (k + 1 - 1) .non := fun k => by
        cases k with
        | zero => rfl
        | succ k => rfl
      have q1 : ∀ j, j < i → ∃ p q, (p = if j = 0 then x else ws.getD (j - 1) .non) ∧ ws[j]? = some q ∧ mayV rs ds p q = true := fun j hj => by
        obtain ⟨p2, q2, f1, f2, f3⟩ := all (j + 1) (Nat.succ_lt_succ hj)
        rw [if_neg (Nat.succ_ne_zero j)] at f1
        exact ⟨p2, q2, f1.trans (e j).symm, f2, f3⟩
      have q2 : mayV rs ds (if i = 0 then x else ws.getD (i - 1) .non) v = false := by
        rw [if_neg (Nat.succ_ne_zero i)] at n
        rw [e i]
        exact n
      rw [if_pos e3, faultV_step (i := i) (v := v) h q1 q2, show o + 1 + i = o + (i + 1) from by omega]
theorem faultV_all {rs : List Str} {ds : List Ed} : ∀ {ws : List V} {ah : V} {o : Nat}, (∀ j, j < ws.length → ∃ p q, (p = if j = 0 then ah else ws.getD (j - 1) .non) ∧ ws[j]? = some q ∧ mayV rs ds p q = true) → faultV rs ds ah ws o = none
  | [], _, _, _ => rfl
  | x :: ws, ah, o, all => by
    obtain ⟨p, q, e1, e2, e3⟩ := all 0 (Nat.succ_pos _)
    obtain rfl : x = q := Option.some.inj e2
    rw [if_pos rfl] at e1
    subst e1
    show (if mayV rs ds p x = true then faultV rs ds x ws (o + 1) else some o) = none
    rw [if_pos e3]
    refine faultV_all fun j hj => ?_
    obtain ⟨p2, q2, f1, f2, f3⟩ := all (j + 1) (Nat.succ_lt_succ hj)
    refine ⟨p2, q2, ?_, f2, f3⟩
    rw [f1, if_neg (Nat.succ_ne_zero j)]
    cases j with
    | zero => rfl
    | succ j => rfl
theorem may_str {rs : List Str} {ds : List Ed} {ah v : V} (h : mayV rs ds ah v = true) : ∃ a, v = .str a ∧ a ∈ rs := by
  cases v with
  | str z =>
    have h2 : (decide (z ∈ rs) && _) = true := h
    rw [Bool.and_eq_true] at h2
    exact ⟨z, rfl, of_decide_eq_true h2.1⟩
  | _ => cases h
section
variable {P : Program} {w : World} {K : PySem.W.Frag} {mg : Str → Option Value} {base : Heap} {C : Addr}
/-- what carrying_fault tells: of no row; of a row of things -/
def Tells (K : PySem.W.Frag) (H : Hp) (rs : List Str) (ds : List Ed) (x : V) (o : Option Nat) : Prop :=
  (o = some 0 ∧ ∃ t, (∀ H', Same H H' → TyX K H' x t) ∧ PySem.W.kitAny K t [.type "list", .type "tuple"] = some false) ∨
    ∃ (a : Addr) (ws : List V), x = .ref a ∧ RowA K H a ws ∧ (∀ v ∈ ws, Knw K H v) ∧ ((ws = [] ∧ o = some 0) ∨ (ws ≠ [] ∧ o = faultV rs ds .non ws 0))
def spFaultA (K : PySem.W.Frag) (C : Addr) : Sp := fun vs H Q _ => ∃ (h : Addr) (x : V) (rs : List Str) (ds : List Ed) (o : Option Nat), vs = [.ref h, x] ∧ HouseAt H C h rs ds ∧ Tells K H rs ds x o ∧ ∀ H', Gr H H' → Q (ofO o) H'
end
end Lamp
set_option maxHeartbeats 8000000
namespace Lamp
open PySem PySem.Spec PyProof.Rows L2
open LamX (CodeO TabS Tabs ExtN TabB GivesTo tLam lamCx lamEnv LamS)
/-! ### what is kept when tables of code objects grow -/
theorem TyX.extN {K : PySem.W.Frag} {H H' : Hp} {v : V} {t : Value} (h : TyX K H v t) (e : ExtN H H') : TyX K H' v t := by
  cases h with
  | base h =>
    refine .base ?_
    cases h with
    | non => exact .non
    | bl x => exact .bl x
    | int i => exact .int i
    | str x => exact .str x
    | flt x => exact .flt x
    | lst h => exact .lst (e _ _ h fun _ z => by cases z)
    | frz h => exact .frz (e _ _ h fun _ z => by cases z)
    | tup h => exact .tup (e _ _ h fun _ z => by cases z)
    | dK h => exact .dK (e _ _ h fun _ z => by cases z)
    | dT h => exact .dT (e _ _ h fun _ z => by cases z)
    | ins h cl ha hn htk hm => exact .ins (e _ _ h fun _ z => by cases z) cl ha hn htk hm
  | byt b => exact .byt b
  | set h => exact .set (e _ _ h fun _ z => by cases z)
  | kList h c => exact .kList h c
  | kTuple h c => exact .kTuple h c
  | kDict h c => exact .kDict h c
  | fTuple h => exact .fTuple (e _ _ h fun _ z => by cases z)
  | fDict h => exact .fDict (e _ _ h fun _ z => by cases z)
/-- a heap with the tables of another -/
noncomputable def tabsOf (H H' : Hp) : Hp := fun b => match H b with
  | some (.tbl ps) => some (.tbl ps)
  | _ => H' b
theorem tabs_same {H H' : Hp} (e : ExtN H H') : Same H (tabsOf H H') := fun b o h => by
  unfold tabsOf
  rw [h]
  cases o with
  | tbl ps => rfl
  | lst _ => exact e _ _ h fun _ z => by cases z
  | tup _ => exact e _ _ h fun _ z => by cases z
  | dK _ => exact e _ _ h fun _ z => by cases z
  | dT _ => exact e _ _ h fun _ z => by cases z
  | set _ _ => exact e _ _ h fun _ z => by cases z
  | ins _ _ _ => exact e _ _ h fun _ z => by cases z
  | own _ => exact e _ _ h fun _ z => by cases z
  | xd _ => exact e _ _ h fun _ z => by cases z
  | met _ _ => exact e _ _ h fun _ z => by cases z
  | rng _ _ => exact e _ _ h fun _ z => by cases z
  | frz _ _ => exact e _ _ h fun _ z => by cases z
  | ext _ => exact e _ _ h fun _ z => by cases z
theorem tabs_back {H H' : Hp} : ExtN (tabsOf H H') H' := fun b o h n => by
  unfold tabsOf at h
  split at h
  · exact absurd (Option.some.inj h).symm (n _)
  · exact h
theorem ty_extN {K : PySem.W.Frag} {H H1 : Hp} {v : V} {t : Value} (h : ∀ H', Same H H' → TyX K H' v t) (e : ExtN H H1) : ∀ H', Same H1 H' → TyX K H' v t := fun H' s =>
  TyX.extN (h _ (tabs_same (e.trans (ExtN.of s)))) tabs_back
theorem seqL_extN {K : PySem.W.Frag} {H H' : Hp} {a : Addr} {xs : List V} (h : SqL K H a xs) (e : ExtN H H') : SqL K H' a xs := Same.seq (H := fun b => match H b with
  | some (.tbl _) => none
  | o => o) (fun b o h' => by
    dsimp only at h'
    split at h'
    · cases h'
    · rename_i n
      exact e b o h' fun ps z => n ps (by rw [h', z])) (by
    rcases h with (z | ⟨o, z⟩) | z
    · exact .inl (.inl (by dsimp only; rw [z]))
    · exact .inl (.inr ⟨o, by dsimp only; rw [z]⟩)
    · exact .inr z)
theorem seqT_extN {K : PySem.W.Frag} {H H' : Hp} {a : Addr} {xs : List V} (h : SqT K H a xs) (e : ExtN H H') : SqT K H' a xs := by
  rcases h with (z | ⟨o, z⟩) | z
  · exact .inl (.inl (e _ _ z fun _ q => by cases q))
  · exact .inl (.inr ⟨o, e _ _ z fun _ q => by cases q⟩)
  · exact .inr z
theorem Knw.extN {K : PySem.W.Frag} {H H' : Hp} {v : V} (k : Knw K H v) (e : ExtN H H') : Knw K H' v := by
  rcases k with k | ⟨t, h1, h2⟩
  · exact .inl k
  · exact .inr ⟨t, ty_extN h1 e, h2⟩
theorem RowA.extN {K : PySem.W.Frag} {H H' : Hp} {a : Addr} {ws : List V} (r : RowA K H a ws) (e : ExtN H H') : RowA K H' a ws := by
  rcases r with ⟨h, t⟩ | ⟨h, t⟩
  · exact .inl ⟨seqL_extN h e, ty_extN t e⟩
  · exact .inr ⟨seqT_extN h e, ty_extN t e⟩
theorem Tells.extN {K : PySem.W.Frag} {H H' : Hp} {rs : List Str} {ds : List Ed} {x : V} {o : Option Nat} (h : Tells K H rs ds x o) (e : ExtN H H') : Tells K H' rs ds x o := by
  rcases h with ⟨h1, t, h2, h3⟩ | ⟨a, ws, h1, h2, h3, h4⟩
  · exact .inl ⟨h1, t, ty_extN h2 e, h3⟩
  · exact .inr ⟨a, ws, h1, h2.extN e, fun v hv => (h3 v hv).extN e, h4⟩
theorem Spr.extN {H H' : Hp} {a l : Addr} {n : Nat} (s : Spr H a l n) (e : ExtN H H') : Spr H' a l n := by
  obtain ⟨ne, cs, cur, mix, h1, h2, h3, h4⟩ := s
  exact ⟨ne, cs, cur, mix, e _ _ h1 (fun _ z => by cases z), e _ _ h2 (fun _ z => by cases z), h3, h4⟩
theorem TupsAt.extN {H H' : Hp} {ts : List Addr} {es : List Ed} (h : TupsAt H ts es) (e : ExtN H H') : TupsAt H' ts es := Paired.imp (fun _ _ q => e _ _ q fun _ z => by cases z) h
theorem HouseAt.extN {H H' : Hp} {C h : Addr} {rs : List Str} {ds : List Ed} (hh : HouseAt H C h rs ds) (e : ExtN H H') : HouseAt H' C h rs ds := by
  obtain ⟨dx, ra, da, na, ts, h1, h2, h3, h4, nf, h5, h6⟩ := hh
  exact ⟨dx, ra, da, na, ts, e _ _ h1 (fun _ z => by cases z), e _ _ h2 (fun _ z => by cases z), e _ _ h3 (fun _ z => by cases z), Paired.imp (fun _ _ q => e _ _ q fun _ z => by cases z) h4, nf, e _ _ h5 (fun _ z => by cases z), fun r hr => e _ _ (h6 r hr) fun _ z => by cases z⟩
theorem Gr.extN {H H' : Hp} (g : Gr H H') : ExtN H H' := ExtN.of g.s
theorem Tabs.gs {T : List (Addr × Str)} {a l : Addr} {n : Nat} {H H' : Hp} (t : Tabs T H) (p : Spr H a l n) (g : Gs a l H H') : Tabs T H' := fun q hq => by
  obtain ⟨ps, h1, h2, h3⟩ := t q hq
  refine ⟨ps, g.keep p h1 rfl, h2, fun pos cv hc => ?_⟩
  obtain ⟨c, e1, e2⟩ := h3 pos cv hc
  exact ⟨c, e1, g.keep p e2 rfl⟩
/-! ### a def whose code object is told -/
def FunC (K : PySem.W.Frag) (x : Str) (st : Stmt) (f c : Addr) (fd : FuncData) : Prop := ∃ (oc : Value) (od : Option Addr) (kV doc pm : Value) (an : Option Addr) (ct : Value) (osl : Array (Option Value)),
  fd = PySem.W.fnOf x x (defArgs st) (defBody st) (defScope st) .none kV doc pm an (.ref c) ct ∧ K.lookup f = some ⟨oc, od, .func fd, osl⟩ ∧ PySem.W.codeIn K (.ref c) x = true
theorem funC_ok {P : Program} {w : World} {K : PySem.W.Frag} {mg : Str → Option Value} {base : Heap} {x : Str} {st : Stmt} {f c : Addr} {fd : FuncData} {N ps : List Str} {k : Nat} {sp : Sp} (F : FunC K x st f c fd) (S : FnScope N ps (defScope st)) (len : ∀ vs H Q E, sp vs H Q E → vs.length = ps.length)
    (hbody : ∀ (A : Around) (outer : List Env) (s : Shared) (H : Hp) (vs : List V) (Q : VK) (E : XK), Room k (A.deeper (envOfC x (defScope st) s.heap.objs.size f (.ref c))) → sp vs H Q E →
      ∃ t, PSs (cxOf CX0 P w K mg base N x (defScope st) f (.ref c) A outer s H E).nox (defBody st) t ∧ t { nx := fun _ H' => Q .non H', rt := Q } (L2.start N vs) H) : FnOk P w K mg base CX0 (k + 1) f fd ps sp := by
  obtain ⟨oc, od, kV, doc, pm, an, ct, osl, rfl, lk, hcd⟩ := F
  refine fn_of lk hcd S len fun A outer s H vs Q E hr hsp => ?_
  obtain ⟨t, h, q⟩ := hbody A outer s H vs Q E hr hsp
  exact ⟨t, h.nox, q⟩
/-! ### what is kept -/
theorem extN_put {H0 H1 H2 : Hp} {L : Addr} {o : HO} (e : ExtN H0 H1) (n : H1 L = none) (e2 : ExtN H1 H2) : ExtN H0 (upd H2 L o) := fun b u h q => by
  have h1 := e b u h q
  rw [upd_ne (ne_of_none h1 n)]
  exact e2 b u h1 q
theorem tabs_put {T : List (Addr × Str)} {H : Hp} {L : Addr} {xs : List V} {o : HO} (t : Tabs T H) (h : H L = some (.lst xs)) : Tabs T (upd H L o) := fun q hq => by
  obtain ⟨ps, h1, h2, h3⟩ := t q hq
  refine ⟨ps, ?_, h2, fun pos cv hc => ?_⟩
  · rw [upd_ne (fun z => by rw [z, h] at h1; cases h1)]
    exact h1
  · obtain ⟨c, e1, e2⟩ := h3 pos cv hc
    refine ⟨c, e1, ?_⟩
    rw [upd_ne (fun z => by
      rw [z, h] at e2
      have e3 := Option.some.inj e2
      unfold CodeO at e3
      cases e3)]
    exact e2
theorem may_perm {rs rs' : List Str} {ds : List Ed} (pm : rs'.Perm rs) (a v : V) : mayV rs' ds a v = mayV rs ds a v := by
  cases v with
  | str z =>
    show (decide (z ∈ rs') && _) = (decide (z ∈ rs) && _)
    rw [decide_eq_decide.mpr (pm.mem_iff (a := z))]
  | _ => rfl
theorem fault_perm {rs rs' : List Str} {ds : List Ed} (pm : rs'.Perm rs) : ∀ (ws : List V) (ah : V) (o : Nat), faultV rs' ds ah ws o = faultV rs ds ah ws o
  | [], _, _ => rfl
  | v :: ws, ah, o => by
    show (if mayV rs' ds ah v = true then faultV rs' ds v ws (o + 1) else some o) = (if mayV rs ds ah v = true then faultV rs ds v ws (o + 1) else some o)
    rw [may_perm pm, fault_perm pm ws v (o + 1)]
/-- without a fault it is a carrying -/
theorem fault_row {rs : List Str} {ds : List Ed} : ∀ {ws : List V} {ah : V} {o : Nat}, faultV rs ds ah ws o = none → ∃ row : List Str, ws = row.map V.str ∧ (∀ r ∈ row, r ∈ rs) ∧ (∀ z, row[0]? = some z → mayV rs ds ah (.str z) = true) ∧ ∀ i a b, row[i]? = some a → row[i + 1]? = some b → Nxt ds a b
  | [], _, _, _ => ⟨[], rfl, fun r h => (nomatch h), fun z h => (nomatch h), fun i a b h => (nomatch h)⟩
  | v :: ws, ah, o, h => by
    have h' : (if mayV rs ds ah v = true then faultV rs ds v ws (o + 1) else some o) = none := h
    by_cases m : mayV rs ds ah v = true
    · rw [if_pos m] at h'
      obtain ⟨z, rfl, mz⟩ := may_str m
      obtain ⟨row, rfl, hm, hd, nx⟩ := fault_row h'
      refine ⟨z :: row, rfl, fun r hr => ?_, fun y hy => ?_, fun i a b h1 h2 => ?_⟩
      · rcases List.mem_cons.mp hr with rfl | hr
        · exact mz
        · exact hm r hr
      · obtain rfl : z = y := Option.some.inj hy
        exact m
      · cases i with
        | zero =>
          obtain rfl : z = a := Option.some.inj h1
          have q := hd b h2
          have q' : (decide (b ∈ rs) && (decide (b = z) || decide (b ∈ nearOf ds z))) = true := q
          rw [Bool.and_eq_true, Bool.or_eq_true] at q'
          rcases q'.2 with q2 | q2
          · exact .inl (of_decide_eq_true q2)
          · exact .inr (of_decide_eq_true q2)
        | succ i => exact nx i a b h1 h2
    · rw [if_neg m] at h'
      cases h'
end Lamp
set_option maxHeartbeats 8000000
namespace Lamp
open PySem PySem.Spec PyProof.Rows L2
/-! ### several except clauses, each with a name -/
/-- a clause: its class, what its suite does -/
abbrev Cl : Type := Value × (Addr → Value → Option Addr → TS)
def offE (i : Nat) (D : Ends) : Ends := ⟨fun τ G => D.nx (τ.set i none) G, D.rt, fun τ G => D.bk (τ.set i none) G, fun τ G => D.ct (τ.set i none) G⟩
def wCl (K : PySem.W.Frag) (i : Nat) (Wo : WX) (D : Ends) : List Cl → WX
  | [] => Wo
  | cl :: rest => fun cls d τ G => ∃ t, PySem.W.exmOne K cls cl.1 = some t ∧ (t = true → ∀ a, G a = none → cl.2 a cls d (offE i D) (τ.set i (some (.ref a))) G) ∧ (t = false → wCl K i Wo D rest cls d τ G)
inductive ClsOk (X : Cx) (n : Str) : List ExceptHandler → List Cl → Prop
  | nil : ClsOk X n [] []
  | cons {x : Str} {cl : Cl} {b0 : Stmt} {more : List Stmt} {q1 q2 : Pos} {hs : List ExceptHandler} {ls : List Cl} (nm : Names X x cl.1)
      (su : ∀ (a : Addr) (o : Obj) (cls : Value) (d : Option Addr) (pn : List (Addr × Obj)), Zc cls d o → (∃ vs, o.data = .fields vs) → PSs (X.suite a ((a, o) :: pn)) (b0 :: more) (cl.2 a cls d)) (rest : ClsOk X n hs ls) :
      ClsOk X n (.ExceptHandler (some (.Name x q1)) (some n) (b0 :: more) q2 :: hs) (cl :: ls)
section
variable {X : Cx} {n : Str} {i : Nat} {inner : List Stmt} {h0 : ExceptHandler} {hs : List ExceptHandler} {ls : List Cl} {q0 : Pos} {tb : WX → TS} {Wo : WX}
theorem ps_try_cls (e1 : X.stack = X.env :: X.outer) (e2 : X.env.frame = some X.env.locals) (nod : X.N.Nodup) (at_ : X.N[i]? = some n) (loc : X.env.kindOf n = some .local) (tk : Takes X Wo)
    (hb : ∀ (W : WX) (pn : List (Addr × Obj)) (xe : Value → Shared → Prop), Takes (X.tr pn xe) W → PassesOwn (model X.prog X.w) X.A X.env xe → PSs (X.tr pn xe) inner (tb W))
    (ok : ClsOk X n (h0 :: hs) ls) : PS X (.Try inner (h0 :: hs) [] [] q0) fun D σ H => tb (wCl X.K i Wo D ls) D σ H := by
  refine ⟨fun pins s σ H D I hyp => ?_⟩
  have iok := I.ok
  have fram : X.A.frames = some (X.env :: X.outer) := iok.frames.trans (by rw [e1])
  have lc : Loc X.env.scope n := Or.inl loc
  refine wpAny_Try_except (wpAny_mono ((hb (wCl X.K i Wo D ls) (X.pn ++ pins)
    (fun e s₁ => wpAny (model X.prog X.w) X.A (noteFrame e X.env) (fun _ s₂ => wpAny (model X.prog X.w) X.A (setFlight e none) (fun _ s₃ => wpAny (model X.prog X.w) X.A (handleBy e X.env (h0 :: hs)) (L2.SP X pins D) X.xe s₃) X.xe s₂) X.xe s₁)
    (fun u s' caught => ?_) PassesOwn.looking).run [] s σ H D (I.toTry _) hyp) (fun fl s1 sp => ?_) (fun _ _ z => z))
  · obtain ⟨a, B, sI, pins', τ, G, cls, d, rfl, J', stays, up, sky, free, osE, bare, wish⟩ := caught
    have J : Inv X pins τ G sI := J'.ofTry iok
    rw [e1] at sky
    refine Sky.land (Q := fun _ s3 => wpAny (model X.prog X.w) X.A (handleBy (.ref a) X.env (h0 :: hs)) (L2.SP X pins D) X.xe s3) Zc.steady fram e2 sky fun g3 fly3 up3 => ?_
    have J3 : Inv X pins τ G { s' with heap := g3 } := Inv.landed J stays fly3.1 (up.trans up3) osE bare
    obtain ⟨o3, v3, at3, zc3, da3⟩ := fly3.there
    have away : ∀ {g : Heap} {o : Obj} {v : Array Value}, g.FunFrames B (X.env :: X.outer) → g.get? a = some o → o.data = .fields v → a ∉ frs (X.env :: X.outer) := fun ff at_ da m => by
      obtain ⟨_, _, at2, nf⟩ := Heap.FunFrames.mem ff m
      cases at_.symm.trans at2
      exact nf _ da
    have nfr := away fly3.2.2.1 at3 da3
    have nL : a ≠ X.env.locals := fun z => nfr (List.mem_filterMap.mpr ⟨_, List.mem_cons_self, e2.trans (by rw [z])⟩)
    have nF : a ∉ X.fs := fun m => by
      obtain ⟨e, me, z⟩ := List.mem_filterMap.mp m
      exact nfr (List.mem_filterMap.mpr ⟨e, List.mem_cons_of_mem _ me, z⟩)
    have S3 := Inv.suite J3 at3 da3 free nL nF
    have walk : ∀ {hs' : List ExceptHandler} {ls' : List Cl}, ClsOk X n hs' ls' → wCl X.K i Wo D ls' cls d τ G → wpAny (model X.prog X.w) X.A (handleBy (.ref a) X.env hs') (L2.SP X pins D) X.xe { s' with heap := g3 } := fun {hs' ls'} co => by
      induction co with
      | nil =>
        intro wo
        refine wpAny_handleBy_nil ?_
        obtain ⟨_, _, _, o, v, T, _, _, at_, zc, da, one, _⟩ := id fly3
        unfold PySem.passOn
        refine wpAny_bind (wpAny_field at_ da one ?_)
        rw [if_neg (by simp : ¬ ((Value.ref T == Value.none) = true))]
        have last : wpAny (model X.prog X.w) X.A (setFlight (.ref a) X.env.frame) (fun _ s4 => wpAny (model X.prog X.w) X.A (throw (.ref a) : Sem Flow) (L2.SP X pins D) X.xe s4) X.xe { s' with heap := g3 } := by
          rw [e2]
          refine HandSPX.setFlight_upZ fly3 fun g4 held4 up4 => wpAny_throw (tk _ _ ⟨a, B, sI, pins, τ, G, cls, d, rfl, J, stays, (up.trans up3).trans up4, .inr (.inr (by rw [e1]; exact held4)), free, osE, bare, wo⟩)
        first
          | exact wpAny_bind (wpAny_pure (wpAny_bind last))
          | exact wpAny_bind last
      | @cons x cl b0 more q1 q2 hs2 ls2 nm su rest ih =>
        rintro ⟨t, te, yes, no⟩
        refine wpAny_handleBy_cons (codeAny_handlers_test ?_) (fun z => by cases z)
        have isC : PySem.W.Looks (model X.prog X.w) g3 (typeOf (.ref a)) cls := fun A Q E s k q => wpAny_typeOf_ref (k _ _ at3) (zc3.1.symm ▸ q)
        have look := PySem.W.exm_one (M := model X.prog X.w) J3.kIn isC te
        have name_ : ∀ {Q : Value → Shared → Prop} {E : Value → Shared → Prop}, Q cl.1 { s' with heap := g3 } → wpAny (model X.prog X.w) (X.A.mark (some (.ref a))) (eval (.Name x q1) X.env) Q E { s' with heap := g3 } := fun {Q E} q => by
          rcases nm with ⟨gl, nd, m | ⟨m, bv, nn⟩⟩
          · exact ld_glob (X := X.suite a ((a, o3) :: (X.pn ++ pins))) S3 gl m q nd
          · exact ld_blt (X := X.suite a ((a, o3) :: (X.pn ++ pins))) S3 gl m bv q nn nd
        refine name_ (look.here ?_)
        cases t with
        | false => exact ih (no rfl)
        | true =>
          refine codeAny_handlers_suite_as (HandSPX.lands_againZ fly3 fun g4 fly4 up4 => ?_)
          have J4 : Inv X pins τ G { s' with heap := g4 } := Inv.landed J stays fly4.1 ((up.trans up3).trans up4) osE bare
          obtain ⟨o4, v4, at4, zc4, da4⟩ := fly4.there
          have S4 := Inv.suite J4 at4 da4 free nL nF
          refine store_ok (X := X.suite a ((a, o4) :: (X.pn ++ pins))) (v := .ref a) S4 nod at_ lc rfl (fun s5 S5 => ?_) (.inr loc)
          refine wpAny_mono ((su a o4 cls d (X.pn ++ pins) zc4 ⟨_, da4⟩).run [] s5 _ G _ S5 (yes rfl a free)) (fun fl s6 sp => ?_) (fun _ _ z => z.elim)
          have done : ∀ {σ6 : L2.St} {H6 : Hp} {Q : Shared → Prop}, Inv (X.suite a ((a, o4) :: (X.pn ++ pins))) [] σ6 H6 s6 → (∀ s7, Inv X pins (σ6.set i none) H6 s7 → Q s7) →
              wpAny (model X.prog X.w) X.A (do bindName X.env n .none; unbindBehindTheSuite X.env n q2) (fun _ s7 => Q s7) X.xe s6 := fun S6 hq => gone_ok (Inv.unsuite S6 iok) nod at_ loc hq
          rcases fl with _ | _ | _ | u
          all_goals first
            | (obtain ⟨σ6, H6, S6, q6⟩ := sp; exact done S6 fun s7 J7 => ⟨_, _, J7, q6⟩)
            | (obtain ⟨v6, σ6, H6, S6, r6, q6⟩ := sp; exact done S6 fun s7 J7 => ⟨_, _, _, J7, r6, q6⟩)
    exact walk ok wish
  · rcases fl with _ | _ | _ | u
    all_goals first
      | (obtain ⟨σ', H', J', q⟩ := sp; exact wpAny_execs_nil ⟨σ', H', J'.ofTry iok, q⟩)
      | (obtain ⟨σ', H', J', q⟩ := sp; exact ⟨σ', H', J'.ofTry iok, q⟩)
      | (obtain ⟨v, σ', H', J', r, q⟩ := sp; exact ⟨v, σ', H', J'.ofTry iok, r, q⟩)
end
end Lamp
set_option maxHeartbeats 8000000
namespace Lamp
open PySem PySem.Spec PyProof.Rows L2
open LamX (CodeO TabS Tabs ExtN TabB GivesTo tLam lamCx lamEnv LamS)
/-! ### _law_met of a lambda, of any number of clauses -/
structure MC where
  x : Str
  C : Addr
  f : Str
  w : Str
def clOf (c : MC) : Cl := (.ref c.C, fun a cls d => tRet (tTup (tCons (tC (.str c.w)) (tCons (tXf a cls d c.C c.f (tVar 1)) tNil))))
inductive MetHs (n : Str) : List ExceptHandler → List MC → Prop
  | nil : MetHs n [] []
  | cons {c : MC} {j k : Nat} {p1 p2 p3 p4 p5 p6 p7 : Pos} {hs : List ExceptHandler} {cs : List MC} (r : MetHs n hs cs) :
      MetHs n (.ExceptHandler (some (.Name c.x p1)) (some n) [.Return (some (.Tuple [.Constant (.str c.w) j p2, .Attribute (.Name n p3) c.f p4] k p5)) p6] p7 :: hs) (c :: cs)
/-- ("told", ask()), or what an error keeps -/
def TMets (K : PySem.W.Frag) (cs : List MC) : (XK → Hp → VK → Prop) → Hp → VK → Prop := fun tl H Q =>
  tl (fun cls d H' => ∃ c ∈ cs, cls = .ref c.C ∧ ∃ dd y, d = some dd ∧ H' dd = some (.xd [(c.f, y)]) ∧ ∀ p, H' p = none → Q (.ref p) (upd H' p (.tup [.str c.w, y]))) H fun v H' => [V.str "told", v].length ≤ sizeLine ∧ ∀ p, H' p = none → Q (.ref p) (upd H' p (.tup [.str "told", v]))
structure MCok (K : PySem.W.Frag) (mg : Str → Option Value) (sg : Scope) (n : Str) (c : MC) : Prop where
  gl : sg.names.lookup c.x = some .globalImplicit
  mg : mg c.x = some (.ref c.C)
  nd : (c.x == ("__debug__" : Str)) = false
  xf : XfC K c.C
  no : PySem.W.findIn K (.ref c.C) c.f = some none
  hb : ∀ (env : Env) (p : Pos), attributeBase (.Name n p) c.f env (eval (.Name n p) env) = eval (.Name n p) env
structure MCs (K : PySem.W.Frag) (mg : Str → Option Value) (sg : Scope) (n : Str) (cs : List MC) : Prop where
  all : ∀ c ∈ cs, MCok K mg sg n c
  ex : ∀ c ∈ cs, ∀ c' ∈ cs, ∃ b, PySem.W.exmOne K (.ref c.C) (.ref c'.C) = some b ∧ (b = true → c = c') ∧ (b = false → c ≠ c')
theorem takes_lenL {X : Cx} {W : WX} (tk : Takes X W) : Takes X fun cls d σ H => σ.length = X.N.length → W cls d σ H := fun u s' ⟨a, B, sI, pins, σ, H, cls, d, e, I, nb, up, sky, na, os, ag, w⟩ =>
  tk u s' ⟨a, B, sI, pins, σ, H, cls, d, e, I, nb, up, sky, na, os, ag, w I.len⟩
theorem wish_cl {K : PySem.W.Frag} {i : Nat} {Wo : WX} {D : Ends} {d : Option Addr} {τ : L2.St} {G : Hp} {c : MC} : ∀ {cs : List MC}, c ∈ cs → (∀ c' ∈ cs, ∃ b, PySem.W.exmOne K (.ref c.C) (.ref c'.C) = some b ∧ (b = true → c = c') ∧ (b = false → c ≠ c')) →
    (∀ a, G a = none → (clOf c).2 a (.ref c.C) d (offE i D) (τ.set i (some (.ref a))) G) → wCl K i Wo D (cs.map clOf) (.ref c.C) d τ G
  | [], m, _, _ => by cases m
  | c0 :: cs, m, ex, k => by
    obtain ⟨b, e, yes, no⟩ := ex c0 List.mem_cons_self
    refine ⟨b, e, fun hb => ?_, fun hb => ?_⟩
    · obtain rfl := yes hb
      exact k
    · have m2 : c ∈ cs := (List.mem_cons.mp m).resolve_left (no hb)
      exact wish_cl m2 (fun c' h => ex c' (List.mem_cons_of_mem _ h)) k
theorem size_two {x y : V} : [x, y].length ≤ sizeLine := by
  show 2 ≤ sizeLine
  decide
theorem cls_of {X : Cx} {n : Str} (h1 : X.N[1]? = some n) (hn : X.env.scope.names.lookup n = some .local) (dn : (n == ("__debug__" : Str)) = false) (dc : (n == ("__classdict__" : Str)) = false) (hk : ∀ x, X.env.scope.names.lookup x = some .globalImplicit → Gl X x) {hs : List ExceptHandler} {cs : List MC} (hh : MetHs n hs cs) (all : ∀ c ∈ cs, MCok X.K X.mg X.env.scope n c) :
    ClsOk X n hs (cs.map clOf) := by
  induction hh with
  | nil => exact .nil
  | @cons c j k p1 p2 p3 p4 p5 p6 p7 hs cs r ih =>
    have o := all c List.mem_cons_self
    exact .cons (cl := clOf c) ⟨hk _ o.gl, o.nd, .inl o.mg⟩ (fun a oe cls d pn hz hf => pss_one (ps_ret (pe_tup (pa_cons pe_str (pa_cons (pe_xf o.xf o.no hz hf (pe_var (i := 1) h1 (.inl hn) dn dc) (o.hb _ _)) pa_nil))))) (ih fun c h => all c (List.mem_cons_of_mem _ h))
theorem mets_gives {X : Cx} {Ng : List Str} {x a n q : Str} {sg : Scope} {g : Addr} {cdg : Value} {j1 k1 : Nat} {p1 p2 p3 p4 p5 p9 : Pos} {h0 : ExceptHandler} {hs : List ExceptHandler} {cs : List MC} (hh : MetHs n (h0 :: hs) cs) (M : MCs X.K X.mg sg n cs)
    (nd : Ng.Nodup) (f0 : ∀ f : Addr, (L2.start Ng [V.ref f])[0]? = some (some (V.ref f))) (h1 : Ng[1]? = some n) (hl : 1 < Ng.length) (hn : sg.names.lookup n = some .local)
    (hkd : ∀ (L : Addr) (cd : Value), (envOfC x sg L g cd).kindOf n = some .local) (hkg : ∀ (L : Addr) (cd : Value) (z : Str), sg.names.lookup z = some .globalImplicit → (envOfC x sg L g cd).kindOf z = some .globalImplicit)
    (dn : (n == ("__debug__" : Str)) = false) (dc : (n == ("__classdict__" : Str)) = false) :
    GivesTo X Ng x sg g cdg [.Try [.Return (some (.Tuple [.Constant (.str "told") j1 p1, .Call (.Name a p2) [] [] p3] k1 p4)) p5] (h0 :: hs) [] [] p9] a q (TMets X.K cs) := by
  intro fa c' s H Q tl act hc h
  refine ⟨_, pss_one (ps_try_cls (i := 1) (X := (cxOf C8.CX0 X.prog X.w X.K X.mg X.base Ng x sg g cdg X.A X.stack s H C8.E0).nox) (ls := cs.map clOf)
      (tb := fun W D σ H => ∃ Ech : XK, (∀ cls d σ' H', Ech cls d H' → σ'.length = Ng.length → W cls d σ' H') ∧ σ[0]? = some (some (.ref fa)) ∧ H c' = some (CodeO c' q) ∧ tl Ech H fun v H' => [V.str "told", v].length ≤ sizeLine ∧ ∀ p, H' p = none → D.rt (.ref p) (upd H' p (.tup [.str "told", v])))
      rfl rfl nd h1 (hkd _ _) LamX.takes0 (fun W pn xe tk _ => ?_) (cls_of h1 hn dn dc (fun z => hkg _ _ z) hh M.all)), ?_⟩
  · refine ⟨fun pins s' σ H' D I h' => ?_⟩
    obtain ⟨Ech, hW, w1, w2, w3⟩ := h'
    have hp := act _ pn xe Ech p2 p3 (takes_lenL tk) hW
    have hq := pss_one (ps_ret (pos := p5) (pe_tup (x1 := k1) (pos := p4) (pa_cons (pe_str : PE _ (.Constant (.str "told") j1 p1) _) (pa_cons hp pa_nil))))
    exact hq.run pins s' σ H' D I ⟨w1, w2, w3⟩
  · refine ⟨_, fun cls d σ' H' hE len => ?_, f0 fa, hc, h⟩
    obtain ⟨c, mc, rfl, dd, y, rfl, hd, k⟩ := hE
    refine wish_cl mc (M.ex c mc) fun a na => ?_
    refine ⟨V.ref a, ?_, rfl, rfl, dd, [(c.f, y)], y, rfl, hd, ?_, size_two, fun p np => k p np⟩
    · rw [List.getElem?_set_self (by rw [len]; exact hl)]
    · simp [List.lookup]
end Lamp
set_option maxHeartbeats 8000000
namespace Lamp
open PySem PySem.Spec PyProof.Rows L2
open LamX (CodeO TabS Tabs ExtN TabB GivesTo tLam lamCx lamEnv LamS)
/-! ### _law_met of k01 -/
def mcs1 (CR CD CN CM : Addr) : List MC := [⟨"BadRooms", CR, "index", "rooms"⟩, ⟨"BadDoors", CD, "index", "doors"⟩, ⟨"NotJoined", CN, "room", "joined"⟩, ⟨"NoRoom", CM, "thing", "room"⟩]
abbrev NMt : List Str := ["ask", "e"]
theorem scMt : FnScope NMt ["ask"] (defScope s_law_met) := ⟨rfl, rfl, rfl, by decide +kernel, rfl, by decide +kernel, by decide +kernel⟩
structure MetsF (K : PySem.W.Frag) (mg : Str → Option Value) (cs : List MC) : Prop where
  ex : ∃ (g : Addr) (fd : FuncData), Fun K "_law_met" "_law_met" s_law_met g fd ∧ mg "_law_met" = some (.ref g) ∧ PySem.W.keepIn K (.ref g) = true ∧ L2.Binds K fd ["ask"] []
  cl : MCs K mg (defScope s_law_met) "e" cs
theorem pe_mets {X : Cx} {T : List (Addr × Str)} {CR CD CN CM c P : Addr} {k : Nat} {params : Arguments} {body : Expr} {scope : Scope} {t : XK → TE} {p lpos pos : Pos} (M : MetsF X.K X.mg (mcs1 CR CD CN CM)) (hg : Gl X "_law_met")
    (TB : TabB X.base X.mg c P) (hcode : X.env.code = .ref c) (hmT : (P, X.env.qual ++ "<lambda>") ∈ T) (hu : ∀ p ∈ T, p.1 = P → p.2 = X.env.qual ++ "<lambda>") (hr : Room (k + 2) X.A) (L : LamS X.env.scope scope) (hdef : defaultsOf params X.env = ([], []))
    (hbind : ∀ (q : Str) (cl : List (Str × Addr)) (pm cv ctv : Value), bindArgs (PySem.W.kla_fn "<lambda>" q params body scope cl pm cv ctv) ⟨[], []⟩ = pure [])
    (hbody : ∀ (A : Around) (outer : List Env) (s : Shared) (H : Hp) (E : XK) (f c' : Addr), Room k (A.deeper (lamEnv X scope s.heap.objs.size f c')) → PE (lamCx X A outer s H E scope f c') body (t E)) :
    PE X (.Call (.Name "_law_met" p) [.Lambda params body scope lpos] [] pos) (tLam T (TMets X.K (mcs1 CR CD CN CM)) t) := by
  obtain ⟨⟨g, fd, F, mm, kk, bb⟩, cl⟩ := M
  obtain ⟨oc, od, kV, doc, pm, an, cdv, ct, osl, rfl, lk, hcd⟩ := F.ex
  exact LamX.pe_lamcall (a := "ask") (Ng := NMt) hg mm kk lk hcd bb scMt rfl (Or.inl rfl)
    (mets_gives (cs := mcs1 CR CD CN CM) (.cons (c := ⟨"BadRooms", CR, "index", "rooms"⟩) (.cons (c := ⟨"BadDoors", CD, "index", "doors"⟩) (.cons (c := ⟨"NotJoined", CN, "room", "joined"⟩) (.cons (c := ⟨"NoRoom", CM, "thing", "room"⟩) .nil)))) cl scMt.nd (fun _ => rfl) rfl (by decide) rfl (fun _ _ => rfl) (fun _ _ z h => h) rfl rfl)
    TB hcode hmT hu hr L hdef hbind hbody
end Lamp
set_option maxHeartbeats 1000000
namespace Lamp
open PySem PySem.Spec PyProof.Rows L2
/-! ### is_name of anything -/
def nameV : V → Bool
  | .str z => nameOk z
  | _ => false
section
variable {P : Program} {w : World} {K : PySem.W.Frag} {mg : Str → Option Value} {base : Heap}
/-- a text that is no longer than a list may be, or no text -/
def KnwN (K : PySem.W.Frag) (H : Hp) (v : V) : Prop := (∃ z, v = .str z ∧ z.length ≤ 100000) ∨ ((∀ z, v ≠ .str z) ∧ ∃ t, (∀ H', Same H H' → TyX K H' v t) ∧ PySem.W.kitOne K t (.type "str") = some false)
def spNameA (K : PySem.W.Frag) : Sp := fun vs H Q _ => ∃ v : V, vs = [v] ∧ KnwN K H v ∧ ∀ H', Gr H H' → Q (.bl (nameV v)) H'
theorem ok_nameA {f : Addr} {fd : FuncData} (F : Fun K "is_name" "is_name" s_is_name f fd) (T : TxtN mg) : FnOk P w K mg base CX0 1 f fd ["thing"] (spNameA K) := by
  obtain ⟨tl, gl⟩ := T.lets
  obtain ⟨tf, gf⟩ := T.figs
  obtain ⟨tn, gn⟩ := T.long
  refine F.ok scNm (fun vs H Q E h => ?_) (fun cdv A outer s H vs Q E hr h => ?_)
  · obtain ⟨z, rfl, _⟩ := h
    rfl
  · obtain ⟨v, rfl, kn, k⟩ := h
    refine ⟨_, pss_cons (ps_if (PW.pt (pw_or (pt_not (pt_val (pe_callB call_isi (by rfl) T.isi PyProof.Rows.Boot.isinstance (pa_cons (pv 0) (pa_cons (pe_bltn (v := .ty "str") (by rfl) T.str PyProof.Rows.Boot.str rfl) pa_nil)))))
          (pw_or1 (pt_not (pt_chain op_le op_le pe_int (pe_callB call_len_str (by rfl) T.len PySem.boot_len (pa_cons (pv 0) pa_nil)) (pe_glob (v := .int 12) (by rfl) gn ⟨tn, rfl⟩))))))
        (pss_one (ps_ret pe_bl)) pss_nil)
      (pss_one (ps_ret (pe_and (pe_cmpR op_in_sign (pe_ix ix_str (pv 0) pe_int (fun _ _ => rfl)) (pe_glob (v := .str lets) (by rfl) gl ⟨tl, rfl⟩) (by rfl))
        (pe_one (pe_callB (cr_all rfl) (by rfl) T.all PyProof.Rows.Boot.all (pa_cons
          (pe_lc (te := tOrV (tOp (fun x y H Q => ∃ (c : Nat) (z : Str), x = .str ⟨#[c]⟩ ∧ y = .str z ∧ Q (.bl (decide (c ∈ z.cps.toList))) H) (tVar 1) (tC (.str lets))) (tOp (fun x y H Q => ∃ (c : Nat) (z : Str), x = .str ⟨#[c]⟩ ∧ y = .str z ∧ Q (.bl (decide (c ∈ z.cps.toList))) H) (tVar 1) (tC (.str figs)))) (own := [("sign", 1)]) (g := gName 1) (tt := tYes) rfl scNm.nd (pi_str (pv 0)) (blkOk_by (N := NNm) (sc := defScope s_is_name) (by decide +kernel))
            (fun _ _ _ _ _ => pg_name (i := 1) scNm.nd rfl (Or.inl rfl)) (fun _ _ _ _ _ => pts_nil)
            (fun _ _ _ _ _ => by exact (pe_or (pe_cmpR op_in_sign (pv 1) (pe_glob (v := .str lets) (by rfl) gl ⟨tl, rfl⟩) (by rfl)) (pe_one (pe_cmpR op_in_sign (pv 1) (pe_glob (v := .str figs) (by rfl) gf ⟨tf, rfl⟩) (by rfl)))))) pa_nil)))))), ?_⟩
    rcases kn with ⟨z, rfl, lz⟩ | ⟨nz, t, ty, kt⟩
    case inr =>
      have e : nameV v = false := by
        cases v with
        | str z => exact absurd rfl (nz z)
        | _ => rfl
      rw [e] at k
      exact ⟨_, rfl, v, .ty "str", t, _, false, rfl, .ty _, ty H (fun _ _ e => e), kt, _, rfl, iteT (k H (Gr.refl H))⟩
    have ls : z.length ≤ sizeLine := Nat.le_trans lz (by decide)
    refine ⟨_, rfl, .str z, .ty "str", _, _, true, rfl, .ty _, .base (.str z), kit_ty (by decide +kernel), _, rfl, iteF ?_⟩
    have no : nameOk z = false → Q (.bl false) H := fun e => by
      have q := k H (Gr.refl H)
      rw [show nameV (.str z) = false from e] at q
      exact q
    refine ⟨_, rfl, _, rfl, ls, ?_⟩
    by_cases c1 : 1 ≤ z.length
    case neg =>
      refine ⟨_, _, rfl, rfl, _, rfl, iteF2 (decide_eq_false (by omega)) ⟨_, rfl, iteT2 rfl ?_⟩⟩
      exact no (by unfold nameOk; rw [decide_eq_false c1, Bool.false_and])
    by_cases c2 : z.length ≤ 12
    case neg =>
      refine ⟨_, _, rfl, rfl, _, rfl, iteT2 (decide_eq_true (by omega)) ⟨_, _, rfl, rfl, _, rfl, iteT2 (by rw [decide_eq_false (by omega)]; rfl) ?_⟩⟩
      exact no (by unfold nameOk; rw [decide_eq_false c2, Bool.false_and, Bool.and_false])
    refine ⟨_, _, rfl, rfl, _, rfl, iteT2 (decide_eq_true (by omega)) ⟨_, _, rfl, rfl, _, rfl, iteF2 (by rw [decide_eq_true (by omega)]; rfl) ?_⟩⟩
    obtain ⟨c, cs, ec⟩ : ∃ c cs, z.cps.toList = c :: cs := by
      cases e : z.cps.toList with
      | nil =>
        have : z.length = 0 := by
          show z.cps.size = 0
          rw [← Array.length_toList, e]
          rfl
        omega
      | cons c cs => exact ⟨c, cs, rfl⟩
    have nm : nameOk z = (decide (c ∈ lets.cps.toList) && z.cps.toList.all fun c => decide (c ∈ lets.cps.toList) || decide (c ∈ figs.cps.toList)) := by
      unfold nameOk
      rw [decide_eq_true c1, decide_eq_true c2, Bool.true_and, Bool.true_and, ec]
    refine ⟨_, rfl, z, 0, c, rfl, rfl, ls, ?_, c, lets, rfl, rfl, _, rfl, ?_⟩
    · rw [ec]
      exact atI_nat (j := 0) rfl
    cases c3 : decide (c ∈ lets.cps.toList) with
    | false => exact iteF2 rfl (no (by rw [nm, c3, Bool.false_and]))
    | true =>
      refine iteT2 rfl ?_
      refine ⟨_, rfl, z, rfl, fun B hB => ?_⟩
      refine lc_it walk_str (fun j H' => H' B = some (.lst (((z.cps.toList.take j).map fun c => decide (c ∈ lets.cps.toList) || decide (c ∈ figs.cps.toList)).map V.bl)) ∧ Gr H H') ⟨upd_same, Gr.upd hB⟩ (fun _ _ _ _ => trivial) ?_ ?_
      · rintro j v H' H'' hj ⟨g1, g2⟩ ⟨rfl, c', hc, rfl⟩
        have ex : z.cps.toList[j]? = some c' := by rw [Array.getElem?_toList]; exact hc
        have tk : z.cps.toList.take (j + 1) = z.cps.toList.take j ++ [c'] := by
          rw [List.take_add_one, ex]
          rfl
        have fin : ∀ b : Bool, b = (decide (c' ∈ lets.cps.toList) || decide (c' ∈ figs.cps.toList)) → ∃ acc, H'' B = some (.lst acc) ∧ acc.length < sizeLine ∧ upd H'' B (.lst (acc ++ [V.bl b])) B = some (.lst (((z.cps.toList.take (j + 1)).map fun c => decide (c ∈ lets.cps.toList) || decide (c ∈ figs.cps.toList)).map V.bl)) ∧ Gr H (upd H'' B (.lst (acc ++ [V.bl b]))) := fun b hb => by
          subst hb
          refine ⟨_, g1, ?_, ?_, g2.put hB⟩
          · rw [List.length_map, List.length_map, List.length_take]
            have h12 : j < 13 := Nat.lt_of_lt_of_le hj (Nat.le_trans c2 (by decide))
            exact Nat.lt_of_le_of_lt (Nat.min_le_left _ _) (Nat.lt_trans h12 (by decide))
          · rw [upd_same, tk, List.map_append, List.map_append]
            rfl
        refine ⟨rfl, _, rfl, c', lets, rfl, rfl, _, rfl, ?_⟩
        by_cases m : c' ∈ lets.cps.toList
        · exact iteT2 (decide_eq_true m) (fin true (by rw [decide_eq_true m]; rfl))
        · refine iteF2 (decide_eq_false m) ⟨_, rfl, c', figs, rfl, rfl, fin _ ?_⟩
          rw [decide_eq_false m, Bool.false_or]
      · rintro H' ⟨g1, g2⟩
        rw [show z.cps.toList.take z.cps.size = z.cps.toList by rw [← Array.length_toList, List.take_length]] at g1
        refine ⟨B, _, rfl, .inl (.inl g1), ?_⟩
        have q := k H' g2
        rw [show nameV (.str z) = (z.cps.toList.map fun c => decide (c ∈ lets.cps.toList) || decide (c ∈ figs.cps.toList)).all id by
          show nameOk z = _
          rw [nm, c3, Bool.true_and, List.all_map]
          rfl] at q
        exact q
end
end Lamp
set_option maxHeartbeats 2000000
namespace Lamp
open PySem PySem.Spec PyProof.Rows L2
/-! ### rules of one or the other -/
theorem PI.or {X : Cx} {tg e : Expr} {w1 w2 : TI} (h : PI X tg e w1) (g : PI X tg e w2) : PI X tg e fun σ H R => w1 σ H R ∨ w2 σ H R := ⟨fun pins s σ H R I q => q.elim (h.run pins s σ H R I) (g.run pins s σ H R I)⟩
theorem CallR.or {X : Cx} {f : Value} {r r' : List V → Hp → VK → Prop} (h : CallR X f r) (h' : CallR X f r') : CallR X f fun xs H Q => r xs H Q ∨ r' xs H Q := by
  intro pins s σ H xs us Q I rx q
  rcases q with q | q
  · exact h pins s σ H xs us Q I rx q
  · exact h' pins s σ H xs us Q I rx q
/-- a thing that is no list and no tuple -/
def NoRow (K : PySem.W.Frag) (H : Hp) (v : V) : Prop := ∃ t, (∀ H', Same H H' → TyX K H' v t) ∧ PySem.W.kitAny K t [.type "list", .type "tuple"] = some false
theorem NoRow.up {K : PySem.W.Frag} {H H' : Hp} {v : V} (n : NoRow K H v) (s : Same H H') : NoRow K H' v := by
  obtain ⟨t, h1, h2⟩ := n
  exact ⟨t, fun H2 s2 => h1 H2 (s.trans s2), h2⟩
/-- what is_pair_of makes of a thing: no door, or the pair -/
def DoorV (K : PySem.W.Frag) (H : Hp) (rs : List Str) (v : V) : Option Ed → Prop
  | none => NoRow K H v ∨ ∃ a ws, v = .ref a ∧ RowA K H a ws ∧ (∀ u ∈ ws, Knw K H u) ∧ ∀ x y : Str, ws = [.str x, .str y] → x ∈ rs → y ∈ rs → x = y
  | some e => ∃ a, v = .ref a ∧ RowA K H a [.str e.1, .str e.2] ∧ e.1 ∈ rs ∧ e.2 ∈ rs ∧ e.1 ≠ e.2
theorem DoorV.up {K : PySem.W.Frag} {H H' : Hp} {rs : List Str} {v : V} {o : Option Ed} (d : DoorV K H rs v o) (s : Same H H') : DoorV K H' rs v o := by
  cases o with
  | none =>
    rcases d with d | ⟨a, ws, e, r, k, n⟩
    · exact .inl (d.up s)
    · exact .inr ⟨a, ws, e, r.up s, fun u hu => (k u hu).up s, n⟩
  | some p =>
    obtain ⟨a, e, r, h⟩ := d
    exact ⟨a, e, r.up s, h⟩
def inR (rs : List Str) : V → Bool
  | .str z => decide (z ∈ rs)
  | _ => false
theorem inR_str {rs : List Str} {v : V} (h : inR rs v = true) : ∃ z, v = .str z ∧ z ∈ rs := by
  cases v with
  | str z => exact ⟨z, rfl, of_decide_eq_true h⟩
  | _ => cases h
theorem inR_odd {K : PySem.W.Frag} {H : Hp} {rs : List Str} {v : V} {t : Value} (ty : TyX K H v t) (kt : PySem.W.kitOne K t (.type "str") = some false) : inR rs v = false := by
  cases v with
  | str z =>
    cases ty with
    | base q =>
      cases q
      have e : PySem.W.kitOne K (.type "str") (.type "str") = some true := kit_ty (by decide +kernel)
      rw [e] at kt
      cases kt
  | _ => rfl
theorem pm_some {rs : List Str} {p : Str → Str} {z : Str} : (valV (PM rs p) (Sum.inr z)).isSome = decide (z ∈ rs) := by
  by_cases m : z ∈ rs
  · rw [pm_get m, decide_eq_true m]
    rfl
  · rw [decide_eq_false m]
    have q : ∀ {l : List Str}, z ∉ l → valV (PM l p) (Sum.inr z) = none := fun {l} => by
      induction l with
      | nil => exact fun _ => rfl
      | cons c l ih =>
        intro h
        have ec : c ≠ z := fun q => h (q ▸ List.mem_cons_self)
        rw [← ih fun m => h (List.mem_cons_of_mem _ m)]
        simp [PM, valV, ec]
    rw [q m]
    rfl
section
variable {P : Program} {w : World} {K : PySem.W.Frag} {mg : Str → Option Value} {base : Heap}
/-! ### is_pair_of, of anything -/
def spPairA (K : PySem.W.Frag) : Sp := fun vs H Q _ => ∃ (D : Addr) (v : V) (rs : List Str) (p : Str → Str) (o : Option Ed), vs = [.ref D, v] ∧ H D = some (.dK (PM rs p)) ∧ DoorV K H rs v o ∧ ∀ H', Gr H H' → Q (.bl o.isSome) H'
theorem ok_pairA {f : Addr} {fd : FuncData} (F : Fun K "is_pair_of" "is_pair_of" s_is_pair_of f fd) (T : TxtP mg) (R : Stands P w K mg base 1 "is_row" ["thing"] (spIsRow K)) : FnOk P w K mg base CX0 2 f fd ["rooms", "thing"] (spPairA K) := by
  obtain ⟨fr, dr, Gr', mr, kr, br⟩ := R
  refine F.ok scPr (fun vs H Q E h => ?_) (fun cdv A outer s H vs Q E hr h => ?_)
  · obtain ⟨D, v, rs, p, o, rfl, _⟩ := h
    rfl
  · obtain ⟨D, v, rs, p, o, rfl, hD, dv, k⟩ := h
    have hu := Nat.lt_of_le_of_lt (Nat.add_le_add_left (show 1 ≤ 64 by decide) _) hr.units
    refine ⟨_, pss_cons (ps_if (PW.pt (pw_or (pt_not (pt_val (pe_call Gr' hr (by rfl) mr kr br .nil pass0 (pa_cons (pv 1) pa_nil)))) (pw_or1 (pt_cmpR op_ne (pe_callB call_len_seq (by rfl) T.len PySem.boot_len (pa_cons (pv 1) pa_nil)) pe_int (nomark _)))))
        (pss_one (ps_ret pe_bl)) pss_nil)
      (pss_one (ps_ret (pe_and (pe_callB (cr_all rfl) (by rfl) T.all PyProof.Rows.Boot.all (pa_cons
          (pe_lc (te := tAndV (tCB (rIsi K) (tCons (tVar 2) (tCons (tC (.ty "str")) tNil))) (tDIn (tVar 2) (tVar 0))) (own := [("room", 2)]) (g := gName 2) (tt := tYes) rfl scPr.nd (PI.or (pi_list (pv 1)) (pi_tup (pv 1))) (blkOk_by (N := ["rooms", "thing", "room"]) (sc := defScope s_is_pair_of) (by decide +kernel))
            (fun _ _ _ _ _ => pg_name (i := 2) scPr.nd rfl (Or.inl rfl)) (fun _ _ _ _ _ => pts_nil)
            (fun _ _ _ _ _ => by exact (pe_and (pe_callB call_isi (by rfl) T.isi PyProof.Rows.Boot.isinstance (pa_cons (pv 2) (pa_cons (pe_bltn (v := .ty "str") (by rfl) T.str PyProof.Rows.Boot.str rfl) pa_nil))) (pe_one (pe_cmp (pc_din hu (pv 2) (pv 0))))))) pa_nil))
        (pe_one (pe_cmpR op_ne (pe_ix ix_seq (pv 1) pe_int (fun _ _ => rfl)) (pe_ix ix_seq (pv 1) pe_int (fun _ _ => rfl)) (nomark _)))))), ?_⟩
    have split : (NoRow K H v ∧ ∀ H', Gr H H' → Q (.bl false) H') ∨ ∃ (a : Addr) (ws : List V) (b : Bool), v = .ref a ∧ RowA K H a ws ∧ (∀ u ∈ ws, Knw K H u) ∧ (ws.length ≠ 2 → b = false) ∧ (∀ x y, ws = [x, y] → b = ((inR rs x && inR rs y) && !decide (x = y))) ∧ ∀ H', Gr H H' → Q (.bl b) H' := by
      rcases o with _ | e
      · rcases dv with nr | ⟨a, ws, ev, row, kn, no⟩
        · exact .inl ⟨nr, k⟩
        · refine .inr ⟨a, ws, false, ev, row, kn, fun _ => rfl, fun x y ew => ?_, k⟩
          subst ew
          cases ex : inR rs x with
          | false => rfl
          | true =>
            cases ey : inR rs y with
            | false => rfl
            | true =>
              obtain ⟨z, rfl, mz⟩ := inR_str ex
              obtain ⟨u, rfl, mu⟩ := inR_str ey
              rw [no z u rfl mz mu, decide_eq_true rfl]
              rfl
      · obtain ⟨a, ev, row, m1, m2, ne⟩ := dv
        refine .inr ⟨a, _, true, ev, row, fun u hu => ?_, fun z => absurd rfl z, fun x y ew => ?_, k⟩
        · rcases List.mem_cons.mp hu with rfl | hu
          · exact .inl ⟨_, rfl⟩
          · rw [List.mem_singleton.mp hu]
            exact .inl ⟨_, rfl⟩
        · have e1 := (List.cons.inj ew).1
          have e2 := (List.cons.inj (List.cons.inj ew).2).1
          rw [← e1, ← e2]
          show true = ((decide (e.1 ∈ rs) && decide (e.2 ∈ rs)) && !decide (V.str e.1 = V.str e.2))
          rw [decide_eq_true m1, decide_eq_true m2, decide_eq_false fun z => ne (V.str.inj z)]
          rfl
    rcases split with ⟨⟨t, ty, kt⟩, k⟩ | ⟨a, ws, b, rfl, row, kn, n2, y2, k⟩
    · exact ⟨_, rfl, v, t, false, rfl, ty, kt, fun H1 s1 n1 => ⟨_, rfl, iteT (k H1 ⟨s1, n1⟩)⟩⟩
    obtain ⟨t, ty, kt⟩ := row.row
    refine ⟨_, rfl, .ref a, t, true, rfl, ty, kt, fun H1 s1 n1 => ⟨_, rfl, iteF ?_⟩⟩
    have row1 := row.up s1
    have g1 : Gr H H1 := ⟨s1, n1⟩
    refine ⟨_, rfl, a, ws, rfl, row1.len, rfl, _, rfl, ?_⟩
    by_cases l2 : ws.length = 2
    case neg =>
      rw [n2 l2] at k
      exact iteT2 (by rw [decide_eq_false fun z => l2 (by have := V.int.inj z; omega)]; rfl) (k H1 g1)
    refine iteF2 (by rw [decide_eq_true (by rw [l2]; rfl)]; rfl) ?_
    obtain ⟨x, y, rfl⟩ : ∃ x y, ws = [x, y] := by
      match ws, l2 with
      | [x, y], _ => exact ⟨x, y, rfl⟩
    have eb := y2 x y rfl
    rcases row1 with ⟨hs, _⟩ | ⟨hs, _⟩
    all_goals
      first
        | refine Or.inl ⟨_, rfl, a, rfl, ⟨_, hs⟩, fun B hB => ?_⟩
        | refine Or.inr ⟨_, rfl, a, rfl, ⟨_, hs⟩, fun B hB => ?_⟩
      first
        | refine lc_it (walk_list (xs := [x, y])) (fun j H' => H' B = some (.lst (((([x, y] : List V).take j).map (inR rs)).map V.bl)) ∧ Gr H1 H') ⟨upd_same, Gr.upd hB⟩ (fun j H' _ g => g.2.s.seq hs) ?_ ?_
        | refine lc_it (walk_tup (xs := [x, y])) (fun j H' => H' B = some (.lst (((([x, y] : List V).take j).map (inR rs)).map V.bl)) ∧ Gr H1 H') ⟨upd_same, Gr.upd hB⟩ (fun j H' _ g => Same.seqT g.2.s hs) ?_ ?_
      · rintro j v H' H'' hj ⟨q1, q2⟩ ⟨rfl, hv⟩
        have kv : Knw K H'' v := ((kn v (List.mem_of_getElem? hv)).up s1).up q2.s
        have tk : ([x, y] : List V).take (j + 1) = ([x, y] : List V).take j ++ [v] := by
          rw [List.take_add_one, hv]
          rfl
        have fin : ∀ b : Bool, b = inR rs v → ∃ acc, H'' B = some (.lst acc) ∧ acc.length < sizeLine ∧ upd H'' B (.lst (acc ++ [V.bl b])) B = some (.lst (((([x, y] : List V).take (j + 1)).map (inR rs)).map V.bl)) ∧ Gr H1 (upd H'' B (.lst (acc ++ [V.bl b]))) := fun b hb => by
          subst hb
          refine ⟨_, q1, ?_, ?_, q2.put hB⟩
          · rw [List.length_map, List.length_map, List.length_take]
            exact Nat.lt_of_le_of_lt (Nat.min_le_right _ _) (by show 2 < sizeLine; decide)
          · rw [upd_same, tk, List.map_append, List.map_append]
            rfl
        rcases kv with ⟨z, rfl⟩ | ⟨t, ty, kt⟩
        · have gz := DGet.k (k := Sum.inr z) (q2.s _ _ (s1 _ _ hD))
          refine ⟨rfl, ⟨_, rfl, .str z, .ty "str", _, _, true, rfl, .ty _, .base (.str z), kit_ty (by decide +kernel), true, rfl, iteT ⟨_, rfl, _, rfl, D, _, rfl, gz, ?_⟩⟩⟩
          exact fin _ pm_some
        · exact ⟨rfl, ⟨_, rfl, v, .ty "str", t, _, false, rfl, .ty _, ty _ (fun _ _ e => e), kt, false, rfl, iteF (fin _ (inR_odd (ty _ (fun _ _ e => e)) kt).symm)⟩⟩
      · rintro H' ⟨q1, q2⟩
        have g2 := g1.trans q2
        refine ⟨B, [inR rs x, inR rs y], rfl, .inl (.inl q1), (inR rs x && inR rs y), ?_, ?_⟩
        · show V.bl (inR rs x && (inR rs y && true)) = _
          rw [Bool.and_true]
        cases ea : (inR rs x && inR rs y) with
        | false =>
          rw [ea, Bool.false_and] at eb
          rw [eb] at k
          exact iteF2 rfl (k H' g2)
        | true =>
          rw [ea, Bool.true_and] at eb
          obtain ⟨a1, a2⟩ := (Bool.and_eq_true _ _).mp ea
          obtain ⟨z, rfl, mz⟩ := inR_str a1
          obtain ⟨u, rfl, mu⟩ := inR_str a2
          refine iteT2 rfl ?_
          first
            | exact ⟨_, rfl, .inl ⟨a, _, 0, .str z, rfl, rfl, q2.s.seq hs, rfl, _, rfl, .inl ⟨a, _, 1, .str u, rfl, rfl, q2.s.seq hs, rfl, rfl, by rw [eb] at k; exact k H' g2⟩⟩⟩
            | exact ⟨_, rfl, .inr (.inl ⟨a, _, 0, .str z, rfl, rfl, Same.seqT q2.s hs, rfl, _, rfl, .inr (.inl ⟨a, _, 1, .str u, rfl, rfl, Same.seqT q2.s hs, rfl, rfl, by rw [eb] at k; exact k H' g2⟩)⟩)⟩
end
end Lamp
set_option maxHeartbeats 2000000
namespace Lamp
open PySem PySem.Spec PyProof.Rows L2
/-! ### rooms_fault of anything -/
/-- what rooms_fault tells of a thing -/
def TellsR (K : PySem.W.Frag) (H : Hp) (x : V) (o : Option Nat) : Prop :=
  (o = some 0 ∧ NoRow K H x) ∨ ∃ (a : Addr) (ws : List V), x = .ref a ∧ RowA K H a ws ∧ (∀ v ∈ ws, KnwN K H v) ∧ ws.length < 1000 ∧
    ((ws = [] ∧ o = some 0) ∨ ∃ (rs : List Str) (rest : List V), ws ≠ [] ∧ ws = rs.map V.str ++ rest ∧ rs.Nodup ∧ (∀ r ∈ rs, nameOk r = true) ∧ ((rest = [] ∧ o = none) ∨ ∃ v vs, rest = v :: vs ∧ o = some rs.length ∧ (nameV v = false ∨ ∃ z, v = .str z ∧ z ∈ rs)))
theorem KnwN.up {K : PySem.W.Frag} {H H' : Hp} {v : V} (k : KnwN K H v) (s : Same H H') : KnwN K H' v := by
  rcases k with k | ⟨n, t, h1, h2⟩
  · exact .inl k
  · exact .inr ⟨n, t, fun H2 s2 => h1 H2 (s.trans s2), h2⟩
theorem TellsR.up {K : PySem.W.Frag} {H H' : Hp} {x : V} {o : Option Nat} (k : TellsR K H x o) (s : Same H H') : TellsR K H' x o := by
  rcases k with ⟨e, n⟩ | ⟨a, ws, e, r, kn, l, h⟩
  · exact .inl ⟨e, n.up s⟩
  · exact .inr ⟨a, ws, e, r.up s, fun v hv => (kn v hv).up s, l, h⟩
theorem nameV_str {v : V} (h : nameV v = true) : ∃ z, v = .str z := by
  cases v with
  | str z => exact ⟨z, rfl⟩
  | _ => cases h
section
variable {P : Program} {w : World} {K : PySem.W.Frag} {mg : Str → Option Value} {base : Heap}
def spRoomsA (K : PySem.W.Frag) : Sp := fun vs H Q _ => ∃ (x : V) (o : Option Nat), vs = [x] ∧ TellsR K H x o ∧ ∀ H', Gr H H' → Q (ofO o) H'
theorem ok_roomsA {f : Addr} {fd : FuncData} (F : Fun K "rooms_fault" "rooms_fault" s_rooms_fault f fd) (T : TxtM mg) (R : Stands P w K mg base 1 "is_row" ["thing"] (spIsRow K)) (NO : Stands P w K mg base 1 "is_name" ["thing"] (spNameA K)) :
    FnOk P w K mg base CX0 2 f fd ["rooms"] (spRoomsA K) := by
  obtain ⟨fr, dr, Gr', mr, kr, br⟩ := R
  obtain ⟨fn, dn, Gn, mn, kn, bn⟩ := NO
  refine F.ok scRf (fun vs H Q E h => ?_) (fun cdv A outer s H vs Q E hr h => ?_)
  · obtain ⟨x, o, rfl, _⟩ := h
    rfl
  · obtain ⟨x, o, rfl, tl, k⟩ := h
    have hu := Nat.lt_of_le_of_lt (Nat.add_le_add_left (show 1 ≤ 64 by decide) _) hr.units
    refine ⟨_, pss_cons (ps_if (PW.pt (pw_or (pt_not (pt_val (pe_call Gr' hr (by rfl) mr kr br .nil pass0 (pa_cons (pv 0) pa_nil)))) (pw_or1 (pt_cmpR op_eq (pe_callB call_len_seq (by rfl) T.len PySem.boot_len (pa_cons (pv 0) pa_nil)) pe_int (nomark _))))) (pss_one (ps_ret pe_int)) pss_nil)
      (pss_cons (ps_set (i := 1) scRf.nd rfl (Or.inl rfl) pe_dnewK)
      (pss_cons (ps_for PassesOwn.never rfl (pi_enumA (by rfl) T.enu (pa_cons (pv 0) pa_nil)) (pg_tup rfl (pgs_cons (pg_name (i := 2) scRf.nd rfl (Or.inl rfl)) (pgs_cons (pg_name (i := 3) scRf.nd rfl (Or.inl rfl)) pgs_nil)))
        (pss_cons (ps_if (PW.pt (pw_or (pt_not (pt_val (pe_call Gn hr (by rfl) mn kn bn .nil pass0 (pa_cons (pv 3) pa_nil)))) (pw_or1 (pt_cmp (pc_din hu (pv 3) (pv 1)) (by rfl))))) (pss_one (ps_ret (pv 2))) pss_nil)
        (pss_one (ps_dput hu (pv 1) (pv 3) pe_bl (by rfl)))))
      (pss_one (ps_ret pe_non)))), ?_⟩
    rcases tl with ⟨rfl, t, ty, kt⟩ | ⟨a, ws, rfl, row, kws, lws, tl⟩
    · exact ⟨_, rfl, x, t, false, rfl, ty, kt, fun H1 s1 n1 => ⟨_, rfl, iteT (k H1 ⟨s1, n1⟩)⟩⟩
    obtain ⟨t, ty, kt⟩ := row.row
    refine ⟨_, rfl, .ref a, t, true, rfl, ty, kt, fun H1 s1 n1 => ⟨_, rfl, iteF ?_⟩⟩
    have row1 := row.up s1
    have g1 : Gr H H1 := ⟨s1, n1⟩
    refine ⟨_, rfl, a, ws, rfl, row1.len, rfl, _, rfl, ?_⟩
    rcases tl with ⟨rfl, rfl⟩ | ⟨rs, rest, ne, ews, nd, ok, tl⟩
    · exact iteT2 (by rfl) (k H1 g1)
    refine iteF2 (decide_eq_false fun z => ne (List.length_eq_zero_iff.mp (by have := V.int.inj z; omega))) ?_
    refine fun D hD => ?_
    have g2 : Gr H (upd H1 D (.dK [])) := g1.trans (Gr.upd hD)
    have DN : H D = none := n1 _ hD
    rcases row with ⟨hs, _⟩ | ⟨hs, _⟩
    all_goals
      first
        | refine ⟨_, rfl, a, ws, rfl, .inl ⟨g2.s.seq hs, ?_⟩⟩
        | refine ⟨_, rfl, a, ws, rfl, .inr ⟨Same.seqT g2.s hs, ?_⟩⟩
      first
        | refine for_it (walk_enum (xs := ws)) (fun i σ' H' => ∃ v2 v3 : Option V, σ' = [some (.ref a), some (.ref D), v2, v3] ∧ i ≤ rs.length ∧ H' D = some (.dK (SM (rs.take i))) ∧ Gr H H') ?_ ?_ ?_ ?_
        | refine for_it (walk_enumT (xs := ws)) (fun i σ' H' => ∃ v2 v3 : Option V, σ' = [some (.ref a), some (.ref D), v2, v3] ∧ i ≤ rs.length ∧ H' D = some (.dK (SM (rs.take i))) ∧ Gr H H') ?_ ?_ ?_ ?_
      · exact ⟨_, _, rfl, Nat.zero_le _, upd_same, g2⟩
      · rintro i σ' H' _ ⟨v2, v3, rfl, q0, q1, q2⟩
        first
          | exact q2.s.seq hs
          | exact Same.seqT q2.s hs
      · rintro i v σ' H' H'' hi ⟨v2, v3, rfl, q0, q1, q2⟩ ⟨T0, x0, y0, rfl, nT, rfl, e1, e2⟩
        obtain rfl := Option.some.inj e1
        replace e2 : ws[i]? = some y0 := e2
        have t2 := Gr.upd (o := .tup [.int (i : Nat), y0]) nT
        have g3 := q2.trans t2
        have u0 := t2.s _ _ q1
        refine ⟨T0, _, rfl, SqT.of upd_same, rfl, _, _, rfl, _, _, rfl, rfl, ?_⟩
        refine ⟨_, rfl, y0, rfl, (kws y0 (List.mem_of_getElem? e2)).up g3.s, fun H3 h3 => ⟨_, rfl, ?_⟩⟩
        have g4 := g3.trans h3
        have u1 := h3.s _ _ u0
        by_cases lt : i < rs.length
        · have hv : y0 = .str rs[i] := by
            rw [ews, List.getElem?_append_left (by rw [List.length_map]; exact lt), List.getElem?_map, List.getElem?_eq_getElem lt] at e2
            exact (Option.some.inj e2).symm
          subst hv
          have nm := take_not nd lt
          have g := DGet.k (k := Sum.inr rs[i]) u1
          refine iteF2 (by rw [show nameV (.str rs[i]) = true from ok _ (List.getElem_mem lt)]; rfl) ?_
          refine ⟨_, rfl, _, rfl, D, _, rfl, g, _, rfl, iteF2 (by rw [sm_get]; exact decide_eq_false nm) ?_⟩
          refine ⟨_, rfl, _, rfl, D, _, rfl, DPut.k (k := Sum.inr rs[i]) u1 (by rw [sm_len, List.length_take]; exact Nat.lt_of_le_of_lt (Nat.min_le_left _ _) (Nat.lt_trans (Nat.lt_trans hi lws) (by decide))), ?_⟩
          rw [sm_new nm, List.take_append_getElem lt]
          exact ⟨_, _, rfl, lt, upd_same, g4.put DN⟩
        · obtain rfl : i = rs.length := by omega
          rcases tl with ⟨rfl, _⟩ | ⟨v, vs, rfl, rfl, bad⟩
          · rw [ews, List.append_nil, List.length_map] at hi
            exact absurd hi (Nat.lt_irrefl _)
          have hv : y0 = v := by
            rw [ews, List.getElem?_append_right (by rw [List.length_map]; exact Nat.le_refl _), List.length_map, Nat.sub_self] at e2
            exact (Option.some.inj e2).symm
          subst hv
          rcases bad with nb | ⟨z, rfl, mz⟩
          · exact iteT2 (by rw [nb]; rfl) ⟨_, rfl, k H3 g4⟩
          · refine iteF2 (by rw [show nameV (.str z) = true from ok _ mz]; rfl) ?_
            have g := DGet.k (k := Sum.inr z) u1
            refine ⟨_, rfl, _, rfl, D, _, rfl, g, _, rfl, iteT2 (by rw [sm_get, List.take_length]; exact decide_eq_true mz) ⟨_, rfl, k H3 g4⟩⟩
      · rintro σ' H' ⟨v2, v3, rfl, q0, q1, q2⟩
        rcases tl with ⟨rfl, rfl⟩ | ⟨v, vs, rfl, rfl, _⟩
        · exact k H' q2
        · rw [ews, List.length_append, List.length_map, List.length_cons] at q0
          omega
end
end Lamp
set_option maxHeartbeats 2000000
namespace Lamp
open PySem PySem.Spec PyProof.Rows L2
/-! ### a list or a tuple walked: one reading for both -/
def iRow (K : PySem.W.Frag) (tl : TE) : TI := fun σ H R => tl σ H fun x H1 => ∃ a ws H0, x = .ref a ∧ Same H0 H1 ∧ (SqL K H0 a ws ∨ SqT K H0 a ws) ∧ ∀ (J : It) (G : Hp → Prop), Walk J ws.length G (YAt ws) → (∀ H', Same H0 H' → G H') → R J H1
theorem pi_row {X : Cx} {tg l : Expr} {tl : TE} (hl : PE X l tl) : PI X tg l (iRow X.K tl) := by
  refine ⟨fun pins s σ H R I h => ?_⟩
  refine thn (hl.run pins s σ H _ I h) fun v s1 ⟨x, H1, I1, r1, q1⟩ => ?_
  obtain ⟨a, ws, H0, e, s01, hq, q⟩ := q1
  subst e
  cases r1
  rcases hq with hq | hq
  · obtain ⟨its, rv, p, hz⟩ := I1.list (s01.seq hq)
    refine wpAny_pyIter_list p.isList ?_
    refine ⟨s1.heap.objs.size, [s1.heap.objs.size], _, _, H1, rfl, I1.kept (t' := s1.toks) fun b o e => Heap.get?_push_of_some _ e, turn_list a _, ⟨_, Heap.get?_push_size _ rfl, rfl, rfl⟩, fun b hb => ?_, q _ _ walk_list fun H' s => s.seq hq⟩
    have e : b = s1.heap.objs.size := by simpa using hb
    subst e
    exact I1.fpOk (Nat.le_refl _) (I1.hok.fresh (Nat.le_refl _))
  · obtain ⟨its, rv, p, hz⟩ := I1.tuple (Same.seqT s01 hq)
    refine wpAny_pyIter_tuple (show s1.heap.IsTuple a its.toArray from p) ?_
    refine ⟨s1.heap.objs.size, [s1.heap.objs.size], _, _, H1, rfl, I1.kept (t' := s1.toks) fun b o e => Heap.get?_push_of_some _ e, turn_tuple a _, ⟨_, Heap.get?_push_size _ rfl, rfl, rfl⟩, fun b hb => ?_, q _ _ walk_tup fun H' s => Same.seqT s hq⟩
    have e : b = s1.heap.objs.size := by simpa using hb
    subst e
    exact I1.fpOk (Nat.le_refl _) (I1.hok.fresh (Nat.le_refl _))
def iEnumR (K : PySem.W.Frag) (ta : TA) : TI := fun σ H R => ta σ H fun vs H1 => ∃ a ws H0, vs = [.ref a] ∧ Same H0 H1 ∧ (SqL K H0 a ws ∨ SqT K H0 a ws) ∧ ∀ (J : It) (G : Hp → Prop), Walk J ws.length G (YPair (fun i => some (.int (i : Nat))) (fun i => ws[i]?)) → (∀ H', Same H0 H' → G H') → R J H1
theorem pi_enumR {X : Cx} {e : Expr} {ta : TA} {p pos tpos : Pos} {elts : List Expr} {n : Nat} (g : Gl X "enumerate") (m : X.mg "enumerate" = none) (ha : PA X [e] ta) (hs : starEach [e] X.env = [(false, eval e X.env)] := by rfl) :
    PI X (.Tuple elts n tpos) (.Call (.Name "enumerate" p) [e] [] pos) (iEnumR X.K ta) := by
  refine ⟨fun pins s σ H R I q => ?_⟩
  refine Call_ (ld_blt I g m boot_enumerate (PyProof.Rows.callWith_type1 (thn (ha.run pos pins s σ H _ I q) fun us s1 ⟨vs, H1, I1, r1, q1⟩ => ?_) hs rfl))
  obtain ⟨a, xs, H0, rfl, s01, hq, q⟩ := q1
  obtain ⟨u, rfl, ru⟩ := vals1 r1
  obtain rfl : u = Value.ref a := ru
  have above : ∀ b ∈ [s1.heap.objs.size + 1, s1.heap.objs.size], FpOk X pins H1 b := fun b hb => by
    have le : s1.heap.objs.size ≤ b := by
      rcases List.mem_cons.mp hb with rfl | hb
      · exact Nat.le_succ _
      · exact Nat.le_of_eq (List.mem_singleton.mp hb).symm
    exact I1.fpOk le (I1.hok.fresh le)
  rcases hq with hq | hq
  · obtain ⟨its, rv, p', hz⟩ := I1.list (s01.seq hq)
    refine call_enumerate_list p'.isList fun h' he hit hsz hk => wpAny_pyIter_enum he ?_
    have I2 : Inv X pins σ H1 { s1 with heap := h' } := I1.kept (t' := s1.toks) hk
    exact ⟨_, _, _, _, H1, rfl, I2, turn_enum a (s1.heap.objs.size + 1) s1.heap.objs.size, ⟨⟨.none, he⟩, hit, Nat.succ_ne_self _⟩, above, q _ _ walk_enum fun H' s => s.seq hq⟩
  · obtain ⟨its, rv, tup, hz⟩ := I1.tuple (Same.seqT s01 hq)
    have la : a < s1.heap.objs.size := let ⟨_, e, _⟩ := tup; Heap.lt_size e
    refine enum_new (begins_tuple a its.toArray) tup fun h' he hit hk => wpAny_pyIter_enum he ?_
    have I2 : Inv X pins σ H1 { s1 with heap := h' } := I1.kept (t' := s1.toks) hk
    exact ⟨_, _, _, _, H1, rfl, I2, turn_tup (us := its) (h0 := s1.heap) (Nat.succ_ne_self _) (Nat.ne_of_lt la) (Nat.ne_of_gt (Nat.lt_succ_of_lt la)), ⟨⟨.none, he⟩, _, hit, rfl, rfl⟩, above, q _ _ walk_enumT fun H' s => Same.seqT s hq⟩
theorem RowA.any {K : PySem.W.Frag} {H H' : Hp} {a : Addr} {ws : List V} (r : RowA K H a ws) (s : Same H H') : SqL K H' a ws ∨ SqT K H' a ws := (r.up s).len
end Lamp
set_option maxHeartbeats 4000000
namespace Lamp
open PySem PySem.Spec PyProof.Rows L2
/-! ### doors_fault of anything -/
def TellsD (K : PySem.W.Frag) (H : Hp) (rs : List Str) (x : V) (o : Option Nat) : Prop :=
  (o = some 0 ∧ NoRow K H x) ∨ ∃ (b : Addr) (ws us : List V) (es : List Ed) (rest : List V), x = .ref b ∧ RowA K H b ws ∧ ws = us ++ rest ∧ Paired (fun u e => DoorV K H rs u (some e)) us es ∧ GoodDoors rs es ∧
    ((rest = [] ∧ o = none) ∨ ∃ v vs, rest = v :: vs ∧ o = some us.length ∧ (DoorV K H rs v none ∨ ∃ e, DoorV K H rs v (some e) ∧ Conn es e.1 e.2))
theorem TellsD.up {K : PySem.W.Frag} {H H' : Hp} {rs : List Str} {x : V} {o : Option Nat} (k : TellsD K H rs x o) (s : Same H H') : TellsD K H' rs x o := by
  rcases k with ⟨e, n⟩ | ⟨b, ws, us, es, rest, e, r, ew, p, g, h⟩
  · exact .inl ⟨e, n.up s⟩
  · refine .inr ⟨b, ws, us, es, rest, e, r.up s, ew, Paired.imp (fun _ _ d => d.up s) p, g, h.imp id fun h => ?_⟩
    obtain ⟨v, vs, e1, e2, h⟩ := h
    exact ⟨v, vs, e1, e2, h.imp (fun d => d.up s) fun ⟨e, d, c⟩ => ⟨e, d.up s, c⟩⟩
theorem rix_row {K : PySem.W.Frag} {H : Hp} {a : Addr} {ws : List V} {i : Int} {v : V} {Q : VK} (r : SqL K H a ws ∨ SqT K H a ws) (h : atI ws i = some v) (q : Q v H) : rIx K (.ref a) (.int i) H Q := by
  rcases r with r | r
  · exact .inl ⟨a, ws, i, v, rfl, rfl, r, h, q⟩
  · exact .inr (.inl ⟨a, ws, i, v, rfl, rfl, r, h, q⟩)
theorem conn_root {p : Str → Str} {L : List Ed} (h : ∀ e ∈ L, ∃ u, Root p e.1 u ∧ Root p e.2 u) {a b : Str} (c : Conn L a b) : ∀ u, Root p a u → Root p b u := by
  induction c with
  | refl => exact fun u h => h
  | fwd _ m ih =>
    intro u hu
    obtain ⟨w, h1, h2⟩ := h _ m
    rw [(ih u hu).uniq h1]
    exact h2
  | bwd _ m ih =>
    intro u hu
    obtain ⟨w, h1, h2⟩ := h _ m
    rw [(ih u hu).uniq h2]
    exact h1
theorem join_fwd {p : Str → Str} {a b : Str} (ea : p a = a) (eb : p b = b) (n : a ≠ b) {x t : Str} (h : Root p x t) : (t ≠ a → Root (putP p a b) x t) ∧ (t = a → Root (putP p a b) x b) := by
  induction h with
  | @stop x e =>
    refine ⟨fun q => .stop (by rw [putP_ne q]; exact e), fun q => ?_⟩
    subst q
    exact .step (by rw [putP_same]; exact n.symm) (by rw [putP_same]; exact .stop (by rw [putP_ne n.symm]; exact eb))
  | @step x t ne g ih =>
    have xa : x ≠ a := fun z => ne (by rw [z]; exact ea)
    exact ⟨fun q => .step (by rw [putP_ne xa]; exact ne) (by rw [putP_ne xa]; exact ih.1 q), fun q => .step (by rw [putP_ne xa]; exact ne) (by rw [putP_ne xa]; exact ih.2 q)⟩
section
variable {P : Program} {w : World} {K : PySem.W.Frag} {mg : Str → Option Value} {base : Heap}
def spDoorsA (K : PySem.W.Frag) : Sp := fun vs H Q _ => ∃ (a : Addr) (x : V) (rs : List Str) (o : Option Nat), vs = [.ref a, x] ∧ RowA K H a (rs.map V.str) ∧ rs.Nodup ∧ rs.length < 1000 ∧ TellsD K H rs x o ∧ ∀ H', Gr H H' → Q (ofO o) H'
theorem ok_doorsA {f : Addr} {fd : FuncData} (F : Fun K "doors_fault" "doors_fault" s_doors_fault f fd) (T : TxtD mg) (R : Stands P w K mg base 1 "is_row" ["thing"] (spIsRow K)) (PO : Stands P w K mg base 2 "is_pair_of" ["rooms", "thing"] (spPairA K)) (LO : Stands P w K mg base 1 "leader_of" ["leaders", "room"] spLeader) :
    FnOk P w K mg base CX0 3 f fd ["rooms", "doors"] (spDoorsA K) := by
  obtain ⟨fr, dr, Gr', mr, kr, br⟩ := R
  obtain ⟨fp, dp, Gp, mp, kp, bp⟩ := PO
  obtain ⟨fl, dl, Gl, ml, kl, bl⟩ := LO
  refine F.ok scDr (fun vs H Q E h => ?_) (fun cdv A outer s H vs Q E hr h => ?_)
  · obtain ⟨a, x, rs, o, rfl, _⟩ := h
    rfl
  · obtain ⟨a, x, rs, o, rfl, ra, nd, hl, tl, k⟩ := h
    have hu := Nat.lt_of_le_of_lt (Nat.add_le_add_left (show 1 ≤ 64 by decide) _) hr.units
    refine ⟨_, pss_cons (ps_if (pt_not (pt_val (pe_call Gr' (hr.mono (by decide)) (by rfl) mr kr br .nil pass0 (pa_cons (pv 1) pa_nil)))) (pss_one (ps_ret pe_int)) pss_nil)
      (pss_cons (ps_setDc (i := 2) (tk := tVar 7) (tv := tVar 7) (own := [("room", 7)]) (g := gName 7) (tt := tYes) rfl scDr.nd rfl rfl (sw_dict rfl rfl rfl (by decide +kernel)) (pi_row (pv 0)) (blkOk_by (N := NDr) (sc := defScope s_doors_fault) (by decide +kernel))
        (fun _ _ _ _ _ => pg_name (i := 7) scDr.nd rfl (Or.inl rfl)) (fun _ _ _ _ _ => pts_nil) (fun _ _ _ _ _ => pv 7) (fun _ _ _ _ _ => pv 7))
      (pss_cons (ps_for PassesOwn.never rfl (pi_enumR (by rfl) T.enu (pa_cons (pv 1) pa_nil)) (pg_tup rfl (pgs_cons (pg_name (i := 3) scDr.nd rfl (Or.inl rfl)) (pgs_cons (pg_name (i := 4) scDr.nd rfl (Or.inl rfl)) pgs_nil)))
        (pss_cons (ps_if (pt_not (pt_val (pe_call Gp hr (by rfl) mp kp bp .nil pass0 (pa_cons (pv 2) (pa_cons (pv 4) pa_nil))))) (pss_one (ps_ret (pv 3))) pss_nil)
        (pss_cons (ps_set (i := 5) scDr.nd rfl (Or.inl rfl) (pe_call Gl (hr.mono (by decide)) (by rfl) ml kl bl .nil pass0 (pa_cons (pv 2) (pa_cons (pe_ix ix_seq (pv 4) pe_int (fun _ _ => rfl)) pa_nil))))
        (pss_cons (ps_set (i := 6) scDr.nd rfl (Or.inl rfl) (pe_call Gl (hr.mono (by decide)) (by rfl) ml kl bl .nil pass0 (pa_cons (pv 2) (pa_cons (pe_ix ix_seq (pv 4) pe_int (fun _ _ => rfl)) pa_nil))))
        (pss_cons (ps_if (pt_cmpR op_eq (pv 5) (pv 6) (nomark _)) (pss_one (ps_ret (pv 3))) pss_nil)
        (pss_one (ps_dput hu (pv 2) (pv 5) (pv 6) (by rfl))))))))
      (pss_one (ps_ret pe_non)))), ?_⟩
    rcases tl with ⟨rfl, t, ty, kt⟩ | ⟨b, ws, us, es, rest, rfl, row, ews, ps, good, tl⟩
    · exact ⟨_, rfl, x, t, false, rfl, ty, kt, fun H1 s1 n1 => ⟨_, rfl, iteT (k H1 ⟨s1, n1⟩)⟩⟩
    obtain ⟨t, ty, kt⟩ := row.row
    refine ⟨_, rfl, .ref b, t, true, rfl, ty, kt, fun H1 s1 n1 => ⟨_, rfl, iteF ?_⟩⟩
    have h1 : Gr H H1 := ⟨s1, n1⟩
    refine ⟨_, rfl, a, _, H, rfl, s1, ra.len, fun J G wk hG => fun D hD => ?_⟩
    refine dc_it wk (fun j H' => H' D = some (.dK (PM (rs.take j) id)) ∧ Gr H1 H') ⟨upd_same, Gr.upd hD⟩ (fun j H' _ g => hG H' (s1.trans g.2.s)) ?_ ?_
    · rintro j v H' H'' hj ⟨g1, g2⟩ ⟨rfl, hv⟩
      have hj2 : j < rs.length := by simpa using hj
      have ev : v = .str rs[j] := by
        rw [List.getElem?_map, List.getElem?_eq_getElem hj2] at hv
        exact (Option.some.inj hv).symm
      subst ev
      refine ⟨rfl, _, rfl, _, rfl, _, Sum.inr rs[j], rfl, g1, ?_, ?_, g2.put hD⟩
      · rw [pm_len, List.length_take]
        exact Nat.lt_of_le_of_lt (Nat.min_le_left _ _) (Nat.lt_trans (Nat.lt_trans hj2 hl) (by decide))
      · rw [upd_same]
        have nm : rs[j] ∉ rs.take j := take_not nd hj2
        rw [pm_new (p := id) (v := rs[j]) nm rfl, List.take_append_getElem hj2]
    · rintro H2 ⟨g1, g2⟩
      rw [List.length_map, List.take_length] at g1
      have s2 : Gr H H2 := h1.trans g2
      have DN : H D = none := n1 _ hD
      have nD : ∀ {x : Addr} {o : HO}, H x = some o → x ≠ D := fun e => ne_of_none e DN
      refine ⟨_, rfl, b, ws, H, rfl, s2.s, row.len, fun J G wk hG => ?_⟩
      have lus : us.length = es.length := paired_len ps
      refine for_it wk (fun i σ' H' => ∃ (p : Str → Str) (d : Str → Nat) (v3 v4 v5 v6 v7 : Option V), σ' = [some (.ref a), some (.ref b), some (.ref D), v3, v4, v5, v6, v7] ∧ i ≤ es.length ∧ H' D = some (.dK (PM rs p)) ∧ Forest rs p d ∧ (∀ x ∈ rs, ∀ t, Root p x t → Conn (es.take i) x t) ∧ (∀ e ∈ es.take i, ∃ u, Root p e.1 u ∧ Root p e.2 u) ∧ Gr H H') ?_ ?_ ?_ ?_
      · refine ⟨id, fun _ => 0, _, _, _, _, _, rfl, Nat.zero_le _, g1, ⟨fun r h => h, fun r _ n => absurd rfl n⟩, fun x _ t h => ?_, fun e he => (by cases he), s2⟩
        cases h with
        | stop _ => exact .refl _
        | step n _ => exact absurd rfl n
      · rintro i σ' H' _ ⟨p, d, v3, v4, v5, v6, v7, rfl, q0, q1, q2, q3, q3', q4⟩
        exact hG H' q4.s
      · rintro i v σ' H' H'' hi ⟨p, d, v3, v4, v5, v6, v7, rfl, q0, q1, q2, q3, q3', q4⟩ ⟨T0, x0, y0, rfl, nT, rfl, e1, e2⟩
        obtain rfl := Option.some.inj e1
        replace e2 : ws[i]? = some y0 := e2
        have t2 := Gr.upd (o := .tup [.int (i : Nat), y0]) nT
        have g3 := q4.trans t2
        have u0 := t2.s _ _ q1
        refine ⟨T0, _, rfl, SqT.of upd_same, rfl, _, _, rfl, _, _, rfl, rfl, ?_⟩
        have cases_ : (o = some i ∧ DoorV K H rs y0 none) ∨ ∃ e, DoorV K H rs y0 (some e) ∧ ((i < es.length ∧ es[i]? = some e) ∨ (i = es.length ∧ Conn es e.1 e.2 ∧ o = some i)) := by
          by_cases lt : i < es.length
          · have le : i < us.length := by rw [lus]; exact lt
            rw [ews, List.getElem?_append_left le] at e2
            obtain ⟨e, ee, de⟩ := paired_at ps e2
            exact .inr ⟨e, de, .inl ⟨lt, ee⟩⟩
          · obtain rfl : i = es.length := by omega
            rcases tl with ⟨rfl, _⟩ | ⟨v, vs, rfl, rfl, bad⟩
            · rw [ews, List.append_nil, lus] at hi
              exact absurd hi (Nat.lt_irrefl _)
            have hv : y0 = v := by
              rw [ews, List.getElem?_append_right (by rw [lus]; exact Nat.le_refl _), lus, Nat.sub_self] at e2
              exact (Option.some.inj e2).symm
            subst hv
            rcases bad with nb | ⟨e, de, cn⟩
            · exact .inl ⟨by rw [lus], nb⟩
            · exact .inr ⟨e, de, .inr ⟨rfl, cn, by rw [lus]⟩⟩
        rcases cases_ with ⟨rfl, nb⟩ | ⟨e, de, cs⟩
        · exact ⟨_, rfl, _, rfl, D, y0, rs, p, none, rfl, u0, nb.up g3.s, fun H3 h3 => ⟨_, rfl, iteT ⟨_, rfl, k H3 (g3.trans h3)⟩⟩⟩
        refine ⟨_, rfl, _, rfl, D, y0, rs, p, some e, rfl, u0, de.up g3.s, fun H3 h3 => ⟨_, rfl, iteF ?_⟩⟩
        obtain ⟨t, rfl, rt, m1, m2, ne⟩ := de
        have g4 := g3.trans h3
        refine ⟨_, rfl, _, rfl, rix_row (rt.any g4.s) (atI_nat (j := 0) rfl) ?_⟩
        refine ⟨D, e.1, rs, p, d, rfl, h3.s _ _ u0, q2, m1, hl, fun H4 p4 r4 w1 w2 w3 w4 w5 w6 w7 => ?_⟩
        have g5 : Gr H H4 := ⟨fun x o h => w6 _ _ (nD h) (g4.s _ _ h), fun x z => g4.n x (w7 x z)⟩
        refine ⟨_, rfl, _, rfl, rix_row (rt.any g5.s) (atI_nat (j := 1) rfl) ?_⟩
        refine ⟨D, e.2, rs, p4, d, rfl, w1, w2, m2, hl, fun H5 p5 r5 x1 x2 x3 x4 x5 x6 x7 => ?_⟩
        have g6 : Gr H H5 := ⟨fun x o h => x6 _ _ (nD h) (g5.s _ _ h), fun x z => g5.n x (x7 x z)⟩
        have b4 : ∀ x ∈ rs, ∀ u, Root p4 x u → Root p x u := fun x hx u h => root_back q2 w3 hx h
        have b5 : ∀ x ∈ rs, ∀ u, Root p5 x u → Root p x u := fun x hx u h => b4 x hx u (root_back w2 x3 hx h)
        have f35 : ∀ x ∈ rs, ∀ u, Root p x u → Root p5 x u := fun x hx u h => x3 x hx u (w3 x hx u h)
        have r51 : Root p e.1 r4 := w5
        have r52 : Root p e.2 r5 := b4 _ m2 _ x5
        have c4 : Conn (es.take i) e.1 r4 := q3 _ m1 _ w5
        have c5 : Conn (es.take i) e.2 r5 := q3 _ m2 _ r52
        rcases cs with ⟨lt, ee⟩ | ⟨rfl, cn, rfl⟩
        case inr =>
          rw [List.take_length] at q3'
          have er : r4 = r5 := (conn_root q3' cn r4 r51).uniq r52
          exact ⟨_, rfl, _, rfl, rfl, _, rfl, iteT2 (decide_eq_true (by rw [er])) ⟨_, rfl, k H5 g6⟩⟩
        obtain ⟨_, _, _, nc⟩ := good _ _ _ (split_at ee)
        have n45 : r4 ≠ r5 := fun z => nc (c4.trans (z ▸ c5.symm))
        have f4 : p5 r4 = r4 := (x3 _ w4 _ (w3 _ w4 _ (.stop w5.top))).top
        have f5 : p5 r5 = r5 := (x3 _ x4 _ (.stop x5.top)).top
        refine ⟨_, rfl, _, rfl, rfl, _, rfl, iteF2 (decide_eq_false fun z => n45 (V.str.inj z)) ?_⟩
        refine ⟨_, rfl, _, rfl, _, rfl, D, _, rfl, DPut.k (k := Sum.inr r4) x1 (by rw [pm_len]; exact Nat.lt_trans hl (by decide)), ?_⟩
        rw [pm_put w4]
        obtain ⟨d', F'⟩ := x2.join w4 x4 f4 f5 n45
        have tk : es.take (i + 1) = es.take i ++ [e] := by
          rw [List.take_add_one, ee]
          rfl
        have old : ∀ z ∈ es.take i, z ∈ es.take (i + 1) := fun z hz => by
          rw [tk]
          exact List.mem_append_left _ hz
        have new : (e.1, e.2) ∈ es.take (i + 1) := by
          rw [tk]
          exact List.mem_append_right _ (List.mem_singleton.mpr rfl)
        have both : ∀ x y, x ∈ rs → y ∈ rs → (∃ u, Root p x u ∧ Root p y u) → ∃ u, Root (putP p5 r4 r5) x u ∧ Root (putP p5 r4 r5) y u := fun x y hx hy ⟨u, h1, h2⟩ => by
          have k1 := join_fwd f4 f5 n45 (f35 x hx u h1)
          have k2 := join_fwd f4 f5 n45 (f35 y hy u h2)
          by_cases z : u = r4
          · exact ⟨r5, k1.2 z, k2.2 z⟩
          · exact ⟨u, k1.1 z, k2.1 z⟩
        refine ⟨_, d', _, _, _, _, _, rfl, lt, upd_same, F', fun x hx u h => ?_, fun z hz => ?_, g6.put DN⟩
        · rcases join_root f4 f5 n45 h with ⟨h1, _⟩ | ⟨h1, rfl⟩
          · exact (q3 _ hx _ (b5 _ hx _ h1)).mono old
          · have c1 : Conn (es.take (i + 1)) x r4 := (q3 _ hx _ (b5 _ hx _ h1)).mono old
            exact ((c1.trans (c4.symm.mono old)).trans (.fwd (.refl _) new)).trans (c5.mono old)
        · rw [tk] at hz
          rcases List.mem_append.mp hz with hz | hz
          · obtain ⟨j, hj, ej⟩ := List.getElem_of_mem (List.mem_of_mem_take hz)
            have sj := good _ _ _ (split_at (List.getElem?_eq_some_iff.mpr ⟨hj, ej⟩))
            exact both _ _ sj.1 sj.2.1 (q3' z hz)
          · rw [List.mem_singleton.mp hz]
            have k1 := join_fwd f4 f5 n45 (f35 _ m1 _ r51)
            have k2 := join_fwd f4 f5 n45 (f35 _ m2 _ r52)
            exact ⟨r5, k1.2 rfl, k2.1 n45.symm⟩
      · rintro σ' H' ⟨p, d, v3, v4, v5, v6, v7, rfl, q0, q1, q2, q3, q3', q4⟩
        rcases tl with ⟨rfl, rfl⟩ | ⟨v, vs, rfl, rfl, _⟩
        · exact k H' q4
        · rw [ews, List.length_append, List.length_cons] at q0
          omega
end
end Lamp
set_option maxHeartbeats 4000000
namespace Lamp
open PySem PySem.Spec PyProof.Rows L2
/-! ### rooms_by_doors: all its lists are new -/
def NearN (H H' : Hp) (na : Addr) (rs : List Str) (ds : List (Str × Str)) : Prop := ∃ nf : Str → Addr, H' na = some (.dK (NM rs nf)) ∧ (∀ r ∈ rs, H' (nf r) = some (.lst ((nearOf ds r).map V.str))) ∧ ∀ r ∈ rs, H (nf r) = none
section
variable {P : Program} {w : World} {K : PySem.W.Frag} {mg : Str → Option Value} {base : Heap}
def spNearN (K : PySem.W.Frag) : Sp := fun vs H Q _ => ∃ (a b : Addr) (rs : List Str) (ts : List Addr) (ds : List Ed), vs = [.ref a, .ref b] ∧ SqL K H a (rs.map V.str) ∧ SqL K H b (ts.map V.ref) ∧ TupsAt H ts ds ∧ rs.Nodup ∧ rs.length < 1000 ∧ ds.length < 1000 ∧ (∀ d ∈ ds, d.1 ∈ rs ∧ d.2 ∈ rs ∧ d.1 ≠ d.2) ∧
  ∀ H' na, NearN H H' na rs ds → Same H H' → (∀ x, H' x = none → H x = none) → H na = none → Q (.ref na) H'
theorem ok_nearbyN {f : Addr} {fd : FuncData} (F : Fun K "rooms_by_doors" "rooms_by_doors" s_rooms_by_doors f fd) : FnOk P w K mg base CX0 1 f fd ["rooms", "doors"] (spNearN K) := by
  refine F.ok scNb (fun vs H Q E h => ?_) (fun cdv A outer s H vs Q E hr h => ?_)
  · obtain ⟨a, b, rs, ts, ds, rfl, _⟩ := h
    rfl
  · obtain ⟨a, b, rs, ts, ds, rfl, ha, hb, ht, nd, hl, hld, ends, k⟩ := h
    have hu := Nat.lt_of_le_of_lt (Nat.add_le_add_left (show 1 ≤ 64 by decide) _) hr.units
    refine ⟨_, pss_cons (ps_setDc (i := 2) (tk := tVar 5) (own := [("room", 5)]) (g := gName 5) (tt := tYes) rfl scNb.nd rfl rfl (sw_dict rfl rfl rfl (by decide +kernel)) (pi_list (pv 0)) (blkOk_by (N := NNb) (sc := defScope s_rooms_by_doors) (by decide +kernel))
        (fun _ _ _ _ _ => pg_name (i := 5) scNb.nd rfl (Or.inl rfl)) (fun _ _ _ _ _ => pts_nil) (fun _ _ _ _ _ => pv 5) (fun _ _ _ _ _ => pe_lst pa_nil))
      (pss_cons (ps_for PassesOwn.never rfl (pi_list (pv 1)) (pg_tup rfl (pgs_cons (pg_name (i := 3) scNb.nd rfl (Or.inl rfl)) (pgs_cons (pg_name (i := 4) scNb.nd rfl (Or.inl rfl)) pgs_nil)))
        (pss_cons (ps_expr (pe_bm PySem.F.plainAttrs_list PySem.F.slot_list_append PySem.F.type_list_append mt_append (pe_dget hu (pv 2) (pv 3) (fun _ _ => rfl)) (pa_cons (pv 4) pa_nil) (by rfl) (by rfl)))
        (pss_one (ps_expr (pe_bm PySem.F.plainAttrs_list PySem.F.slot_list_append PySem.F.type_list_append mt_append (pe_dget hu (pv 2) (pv 4) (fun _ _ => rfl)) (pa_cons (pv 3) pa_nil) (by rfl) (by rfl))))))
      (pss_one (ps_ret (pv 2)))), ?_⟩
    refine ⟨_, rfl, a, rfl, ⟨_, ha⟩, fun D hD => ?_⟩
    refine dc_it (walk_list (xs := rs.map V.str)) (fun j H' => ∃ nf, Fill H H' D (rs.take j) nf fun _ => []) ?_ (fun j H' _ ⟨nf, g⟩ => g.same.seq ha) ?_ ?_
    · exact ⟨fun _ => 0, upd_same, fun r h => (by cases h), fun r h => (by cases h), fun r h => (by cases h), hD, same_upd hD, fun x z => (none_upd z).2⟩
    · rintro j v H' H'' hj ⟨nf, g⟩ ⟨rfl, hv⟩
      have hj2 : j < rs.length := by simpa using hj
      obtain rfl : V.str rs[j] = v := by
        rw [List.getElem?_map, List.getElem?_eq_getElem hj2] at hv
        exact Option.some.inj hv
      have nm := take_not nd hj2
      refine ⟨rfl, _, rfl, by show 0 ≤ sizeLine; decide, fun p hp => ?_⟩
      have nDp : D ≠ p := ne_of_none g.dict hp
      refine ⟨_, Sum.inr rs[j], rfl, by rw [upd_ne nDp]; exact g.dict, ?_, putA nf rs[j] p, ?_⟩
      · rw [nm_len, List.length_take]
        exact Nat.lt_of_le_of_lt (Nat.min_le_left _ _) (Nat.lt_trans (Nat.lt_trans hj2 hl) (by decide))
      · have tk : rs.take (j + 1) = rs.take j ++ [rs[j]] := (List.take_append_getElem hj2).symm
        have oldp : ∀ r ∈ rs.take j, nf r ≠ p := fun r hr z => by
          have e := g.lists r hr
          rw [z, hp] at e
          cases e
        have ne : ∀ r ∈ rs.take j, r ≠ rs[j] := fun r hr z => nm (z ▸ hr)
        have split : ∀ r ∈ rs.take (j + 1), r ∈ rs.take j ∨ r = rs[j] := fun r hr => by
          rw [tk] at hr
          rcases List.mem_append.mp hr with h | h
          · exact .inl h
          · exact .inr (List.mem_singleton.mp h)
        refine ⟨?_, fun r hr => ?_, fun r hr => ?_, fun r hr q hq z => ?_, hD, fun x o e => ?_, fun x z => g.gone x (none_upd (none_upd z).2).2⟩
        · rw [upd_same, nm_new nm, tk]
        · rcases split r hr with h | rfl
          · have nd2 : nf r ≠ D := fun z => by
              have e := g.lists r h
              rw [z, g.dict] at e
              cases e
            rw [putA_ne (ne r h), upd_ne nd2, upd_ne (oldp r h)]
            exact g.lists r h
          · rw [putA_same, upd_ne nDp.symm, upd_same]
            rfl
        · rcases split r hr with h | rfl
          · rw [putA_ne (ne r h)]
            exact g.new r h
          · rw [putA_same]
            exact g.gone p hp
        · rcases split r hr with h | rfl
          · rcases split q hq with h2 | rfl
            · rw [putA_ne (ne r h), putA_ne (ne q h2)] at z
              exact g.inj r h q h2 z
            · rw [putA_ne (ne r h), putA_same] at z
              exact absurd z (oldp r h)
          · rcases split q hq with h2 | rfl
            · rw [putA_same, putA_ne (ne q h2)] at z
              exact absurd z.symm (oldp q h2)
            · rfl
        · rw [upd_ne (ne_of_none e hD), upd_ne (ne_of_none (g.same x o e) hp)]
          exact g.same x o e
    · rintro H2 ⟨nf, g⟩
      rw [List.length_map, List.take_length] at g
      refine ⟨_, rfl, b, rfl, ⟨_, g.same.seq hb⟩, ?_⟩
      refine for_it (walk_list (xs := ts.map V.ref)) (fun i σ' H' => ∃ (v3 v4 v5 : Option V), σ' = [some (.ref a), some (.ref b), some (.ref D), v3, v4, v5] ∧ Fill H H' D rs nf fun r => nearOf (ds.take i) r) ?_ ?_ ?_ ?_
      · exact ⟨_, _, _, rfl, g⟩
      · rintro i σ' H' _ ⟨v3, v4, v5, rfl, g⟩
        exact g.same.seq hb
      · rintro i v σ' H' H'' hi ⟨v3, v4, v5, rfl, g⟩ ⟨rfl, hv⟩
        rw [List.getElem?_map] at hv
        obtain ⟨t, et, rfl⟩ := Option.map_eq_some_iff.mp hv
        obtain ⟨e, ee, te⟩ := paired_at ht et
        obtain ⟨m1, m2, ne⟩ := ends e (List.mem_of_getElem? ee)
        have tk : ds.take (i + 1) = ds.take i ++ [e] := by
          rw [List.take_add_one, ee]
          rfl
        have ln : ∀ r, ((nearOf (ds.take i) r).map V.str).length < 1000 := fun r => by
          rw [List.length_map]
          have z := near_len (ds := ds.take i) (r := r)
          rw [List.length_take] at z
          omega
        have t1 := g.same _ _ te
        have g1 := DGet.k (k := Sum.inr e.1) g.dict
        rw [nm_get m1] at g1
        have l1 := g.lists _ m1
        have F1 := g.put m1 (nearOf (ds.take i) e.1 ++ [e.2])
        rw [List.map_append] at F1
        have g2 := DGet.k (k := Sum.inr e.2) F1.dict
        rw [nm_get m2] at g2
        have l2 := F1.lists _ m2
        rw [if_neg ne.symm] at l2
        have F2 := F1.put m2 (nearOf (ds.take i) e.2 ++ [e.1])
        rw [List.map_append] at F2
        have ec : (fun q => if q = e.2 then nearOf (ds.take i) e.2 ++ [e.1] else if q = e.1 then nearOf (ds.take i) e.1 ++ [e.2] else nearOf (ds.take i) q) = fun r => nearOf (ds.take (i + 1)) r := by
          funext q
          rw [tk, near_snoc]
          by_cases q2 : q = e.2
          · subst q2
            rw [if_pos rfl, if_neg ne, if_pos rfl]
          · rw [if_neg q2]
            by_cases q1 : q = e.1
            · subst q1
              rw [if_pos rfl, if_pos rfl]
            · rw [if_neg q1, if_neg fun z => q1 z.symm, if_neg fun z => q2 z.symm, List.append_nil]
        rw [ec] at F2
        refine ⟨t, _, rfl, SqT.of t1, rfl, _, _, rfl, _, _, rfl, rfl, ?_⟩
        refine ⟨_, rfl, _, rfl, D, _, rfl, g1, .inl ⟨rfl, _, SqL.of l1⟩, _, rfl, nf e.1, _, .str e.2, rfl, rfl, l1, Nat.lt_trans (ln _) (by decide), ?_⟩
        refine ⟨_, rfl, _, rfl, D, _, rfl, g2, .inl ⟨rfl, _, SqL.of l2⟩, _, rfl, nf e.2, _, .str e.1, rfl, rfl, l2, Nat.lt_trans (ln _) (by decide), ?_⟩
        exact ⟨_, _, _, rfl, F2⟩
      · rintro σ' H' ⟨v3, v4, v5, rfl, g⟩
        have el : ds.take (ts.map V.ref).length = ds := by
          rw [List.length_map, Paired.length ht]
          exact List.take_length
        rw [el] at g
        exact ⟨_, rfl, k H' D ⟨nf, g.dict, g.lists, g.new⟩ g.same g.gone g.newD⟩
end
end Lamp
set_option maxHeartbeats 8000000
namespace Lamp
open PySem PySem.Spec PyProof.Rows L2
/-! ### len of an own object; House.__len__, House.doors, House.__eq__ -/
section
variable {X : Cx} {C f : Addr} {fd : FuncData} {ps : List Str} {sp : Sp} {k : Nat}
theorem call_len_own (G : FnOk X.prog X.w X.K X.mg X.base CX0 k f fd ps sp) (hs : PySem.W.findIn X.K (.ref C) "__len__" = some (some (.ref f))) (hf : PySem.W.isFn X.K (.ref f) = true) (hb : L2.Binds X.K fd ps []) (hr : Room (k + 1) X.A) :
    CallR X (.builtin "len") fun xs H Q => ∃ (h dx : Addr) (fs : List (Str × V)), xs = [.ref h] ∧ H h = some (.ins C dx fs) ∧ sp [.ref h] H (fun v H' => ∃ n : Nat, v = .int (n : Int) ∧ n < 1000000 ∧ Q v H') E0 := by
  intro pins s σ H xs us Q I r h
  obtain ⟨a, dx, fs, rfl, ha, hsp⟩ := h
  obtain ⟨u, rfl, ru⟩ := vals1 r
  obtain rfl : u = Value.ref a := ru
  obtain ⟨mA, J, _⟩ := ins_get I.hok ha
  obtain ⟨od, J, _⟩ := J.look
  obtain ⟨m, hF⟩ := I.fr
  refine PySem.W.len_K hF I.ok.mod.kin J hs hf ?_
  have e0 : Env0 X.prog X.w X.K X.mg X.base X.A.in1 X.stack s H := by
    have e := I.env0
    exact ⟨e.frames, e.mod, e.bs, e.bsz, e.funs, e.frf, e.hok, e.bare⟩
  have hl := G.len _ _ _ _ hsp
  refine wpAny_call (codeAny_mono (G.run X.A.in1 X.stack s H ⟨[.ref a], []⟩ [.ref a] [.ref a] _ E0 hr.in1 e0 (by
    have := hb s [.ref a] I.kIn (by simpa using hl)
    simpa using this) (.cons rfl .nil) hsp) fun r s' hq => ?_)
  cases r with
  | error e => exact (show False from hq).elim
  | ok fl =>
    cases fl with
    | ret z =>
      obtain ⟨v, H', I', rz, n, rfl, hn, q⟩ := I.after hq
      obtain ⟨t, rfl⟩ := rz
      refine ⟨⟨by omega, by omega⟩, .int (n : Int), H', I'.tok _, ⟨_, rfl⟩, q⟩
    | next => exact False.elim hq
    | brk => exact False.elim hq
    | cont => exact False.elim hq
end
section
variable {P : Program} {w : World} {K : PySem.W.Frag} {mg : Str → Option Value} {base : Heap} {C : Addr}
structure TxtHl (mg : Str → Option Value) : Prop where
  list : mg "list" = none
  len : mg "len" = none
  isi : mg "isinstance" = none
def spLenH (C : Addr) : Sp := fun vs H Q _ => ∃ (h : Addr) (rs : List Str) (ds : List Ed), vs = [.ref h] ∧ HouseAt H C h rs ds ∧ Q (.int (rs.length : Int)) H
theorem scHle : FnScope ["self"] ["self"] (defScope m_House_len) := ⟨rfl, rfl, rfl, by decide +kernel, rfl, by decide +kernel, by decide +kernel⟩
theorem ok_lenH {f : Addr} {fd : FuncData} (F : Fun K "__len__" "House.__len__" m_House_len f fd) (T : TxtHl mg) (c : ClsH K C) : FnOk P w K mg base CX0 1 f fd ["self"] (spLenH C) := by
  refine F.ok scHle (fun vs H Q E h => ?_) (fun cdv A outer s H vs Q E hr h => ?_)
  · obtain ⟨h, rs, ds, rfl, _⟩ := h
    rfl
  · obtain ⟨h, rs, ds, rfl, a, k⟩ := h
    obtain ⟨dx, ra, da, na, ts, h1, h2, h3, h4, nf, h5, h6⟩ := a.at_
    refine ⟨_, pss_one (ps_ret (pe_callB call_len_seq (by rfl) T.len PySem.boot_len (pa_cons (pe_fld (f := "_rooms") (pv 0) (by rfl)) pa_nil))), ?_⟩
    refine ⟨_, rfl, h, C, dx, _, _, rfl, h1, c.cls, c.nR, by rfl, ra, _, rfl, .inl (SqL.of h2), ?_⟩
    rw [List.length_map]
    exact k
def spDoorsH (C : Addr) : Sp := fun vs H Q _ => ∃ (h : Addr) (rs : List Str) (ds : List Ed), vs = [.ref h] ∧ HouseAt H C h rs ds ∧ ∀ H' p ts, TupsAt H' ts ds → H' p = some (.lst (ts.map V.ref)) → Gr H H' → H p = none → Q (.ref p) H'
theorem scHdo : FnScope ["self"] ["self"] (defScope m_House_doors) := ⟨rfl, rfl, rfl, by decide +kernel, rfl, by decide +kernel, by decide +kernel⟩
theorem ok_doorsH {f : Addr} {fd : FuncData} (F : Fun K "doors" "House.doors" m_House_doors f fd) (T : TxtHl mg) (c : ClsH K C) : FnOk P w K mg base CX0 1 f fd ["self"] (spDoorsH C) := by
  refine F.ok scHdo (fun vs H Q E h => ?_) (fun cdv A outer s H vs Q E hr h => ?_)
  · obtain ⟨h, rs, ds, rfl, _⟩ := h
    rfl
  · obtain ⟨h, rs, ds, rfl, a, k⟩ := h
    obtain ⟨dx, ra, da, na, ts, h1, h2, h3, h4, nf, h5, h6⟩ := a.at_
    refine ⟨_, pss_one (ps_ret (pe_callTy call_list_of (by rfl) T.list (by decide +kernel) (pa_cons (pe_fld (f := "_doors") (pv 0) (by rfl)) pa_nil))), ?_⟩
    refine ⟨_, rfl, h, C, dx, _, _, rfl, h1, c.cls, c.nD, by rfl, _, _, rfl, .inl (SqL.of h3), fun p np => ?_⟩
    have g := Gr.upd (o := .lst (ts.map V.ref)) np
    exact k _ p ts (Paired.imp (fun _ _ e => g.s _ _ e) h4) upd_same g np
end
end Lamp
set_option maxHeartbeats 8000000
namespace Lamp
open PySem PySem.Spec PyProof.Rows L2
/-! ### is_number, is_ledger of anything -/
def numV : V → Bool
  | .int i => decide (0 ≤ i)
  | _ => false
def posV : V → Bool
  | .int i => decide (0 < i)
  | _ => false
/-- a value of which it is known whether it is an int, a truth, or none of both -/
def KnI (K : PySem.W.Frag) (H : Hp) (v : V) : Prop := (∃ i, v = .int i) ∨ (∃ b, v = .bl b) ∨ ((∀ i, v ≠ .int i) ∧ ∃ t, (∀ H', Same H H' → TyX K H' v t) ∧ PySem.W.kitOne K t (.type "int") = some false)
theorem KnI.up {K : PySem.W.Frag} {H H' : Hp} {v : V} (k : KnI K H v) (s : Same H H') : KnI K H' v := by
  rcases k with k | k | ⟨n, t, h1, h2⟩
  · exact .inl k
  · exact .inr (.inl k)
  · exact .inr (.inr ⟨n, t, fun H2 s2 => h1 H2 (s.trans s2), h2⟩)
/-- the class of a value, while a dict is gone through -/
theorem tyx_lock {K : PySem.W.Frag} {H : Hp} {d : Addr} {od : Obj} {kvs : List (Key × V)} {v : V} {t : Value} (h : TyX K (L2.upd H d (.dK kvs)) v t) (hd : H d = some (.frz od (.dK kvs))) : TyX K H v t := by
  have up : ∀ {a : Addr} {o : HO}, L2.upd H d (.dK kvs) a = some o → (∀ q, o ≠ .dK q) → H a = some o := by
    intro a o e n
    by_cases z : a = d
    · subst z
      rw [upd_same] at e
      exact absurd (Option.some.inj e).symm (n _)
    · rwa [upd_ne z] at e
  cases h with
  | base h =>
    cases h with
    | non => exact .base .non
    | bl x => exact .base (.bl x)
    | int i => exact .base (.int i)
    | str x => exact .base (.str x)
    | flt x => exact .base (.flt x)
    | lst h => exact .base (.lst (up h fun _ => nofun))
    | frz h => exact .base (.frz (up h fun _ => nofun))
    | tup h => exact .base (.tup (up h fun _ => nofun))
    | @dK a q h =>
      by_cases z : a = d
      · subst z
        exact .fDict hd
      · rw [upd_ne z] at h
        exact .base (.dK h)
    | dT h => exact .base (.dT (up h fun _ => nofun))
    | ins h cl ha hn htk hm => exact .base (.ins (up h fun _ => nofun) cl ha hn htk hm)
  | byt b => exact .byt b
  | set h => exact .set (up h fun _ => nofun)
  | kList h c => exact .kList h c
  | kTuple h c => exact .kTuple h c
  | kDict h c => exact .kDict h c
  | fTuple h => exact .fTuple (up h fun _ => nofun)
  | fDict h => exact .fDict (up h fun _ => nofun)
theorem same_unlock {H H' : Hp} {d : Addr} {od : Obj} {u : HO} (hd : H d = some u) (g : Same (L2.upd H d (.frz od u)) H') : Same H (L2.upd H' d u) := fun x o e => by
  by_cases z : x = d
  · subst z
    rw [upd_same, ← hd]
    exact e
  · rw [upd_ne z]
    exact g _ _ (by rw [upd_ne z]; exact e)
theorem KnI.lock {K : PySem.W.Frag} {H H' : Hp} {v : V} {d : Addr} {od : Obj} {kvs : List (Key × V)} (k : KnI K H v) (hd : H d = some (.dK kvs)) (g : Same (L2.upd H d (.frz od (.dK kvs))) H') : KnI K H' v := by
  rcases k with k | k | ⟨n, t, h1, h2⟩
  · exact .inl k
  · exact .inr (.inl k)
  · exact .inr (.inr ⟨n, t, fun H2 s2 => tyx_lock (h1 _ (same_unlock hd (g.trans s2))) (s2 _ _ (g _ _ upd_same)), h2⟩)
theorem numV_int {v : V} (h : numV v = true) : ∃ i, v = .int i ∧ 0 ≤ i := by
  cases v with
  | int i => exact ⟨i, rfl, of_decide_eq_true h⟩
  | _ => cases h
def ledV (rs fs : List Str) (nv : Str → V) : Bool := decide (fs.length = rs.length) && ((rs.all fun r => decide (r ∈ fs) && numV (nv r)) && fs.any fun r => posV (nv r))
/-- as many, and all of them: the same -/
theorem same_mem {rs fs : List Str} (nd : rs.Nodup) (sub : ∀ r ∈ rs, r ∈ fs) (le : fs.length = rs.length) : ∀ f ∈ fs, f ∈ rs := by
  intro f hf
  by_cases m : f ∈ rs
  · exact m
  · have l := nodup_le (List.nodup_cons.mpr ⟨m, nd⟩) (m := fs) fun x hx => by
      rcases List.mem_cons.mp hx with rfl | hx
      · exact hf
      · exact sub x hx
    rw [List.length_cons] at l
    omega
section
variable {P : Program} {w : World} {K : PySem.W.Frag} {mg : Str → Option Value} {base : Heap} {C : Addr}
def spNumA (K : PySem.W.Frag) : Sp := fun vs H Q _ => ∃ v : V, vs = [v] ∧ KnI K H v ∧ Q (.bl (numV v)) H
/-- len(house) -/
def LenOf (P : Program) (w : World) (K : PySem.W.Frag) (mg : Str → Option Value) (base : Heap) (C : Addr) : Prop := ∃ (f : Addr) (fd : FuncData), Meth K C "__len__" f ∧ FnOk P w K mg base CX0 1 f fd ["self"] (spLenH C) ∧ L2.Binds K fd ["self"] []
/-- what may be a ledger: no dict, or a dict with texts as keys -/
def MayLed (K : PySem.W.Frag) (H : Hp) (rs : List Str) (x : V) (b : Bool) : Prop := (b = false ∧ ∃ t, (∀ H', Same H H' → TyX K H' x t) ∧ PySem.W.kitOne K t (.type "dict") = some false) ∨
  ∃ (d : Addr) (fs : List Str) (nv : Str → V), x = .ref d ∧ H d = some (.dK (TM fs nv)) ∧ (∀ r ∈ fs, KnI K H (nv r)) ∧ fs.length < 1000 ∧ b = ledV rs fs nv
theorem MayLed.up {K : PySem.W.Frag} {H H' : Hp} {rs : List Str} {x : V} {b : Bool} (m : MayLed K H rs x b) (s : Same H H') : MayLed K H' rs x b := by
  rcases m with ⟨e, t, h1, h2⟩ | ⟨d, fs, nv, e, h1, h2, h3, h4⟩
  · exact .inl ⟨e, t, fun H2 s2 => h1 H2 (s.trans s2), h2⟩
  · exact .inr ⟨d, fs, nv, e, s _ _ h1, fun r hr => (h2 r hr).up s, h3, h4⟩
def spIsLed (K : PySem.W.Frag) (C : Addr) : Sp := fun vs H Q _ => ∃ (h : Addr) (x : V) (rs : List Str) (ds : List Ed) (b : Bool), vs = [.ref h, x] ∧ HouseAt H C h rs ds ∧ rs.Nodup ∧ rs.length < 60 ∧ MayLed K H rs x b ∧ ∀ H', Gr H H' → Q (.bl b) H'
structure TxtL (mg : Str → Option Value) : Prop where
  any : mg "any" = none
/-- no dict, or a dict with texts as keys: whether its keys are just the rooms -/
def byV (rs fs : List Str) : Bool := decide (fs.length = rs.length) && rs.all fun r => decide (r ∈ fs)
def MayBy (K : PySem.W.Frag) (H : Hp) (rs : List Str) (x : V) (b : Bool) : Prop := (b = false ∧ ∃ t, (∀ H', Same H H' → TyX K H' x t) ∧ PySem.W.kitOne K t (.type "dict") = some false) ∨
  ∃ (d : Addr) (fs : List Str) (nv : Str → V), x = .ref d ∧ H d = some (.dK (TM fs nv)) ∧ b = byV rs fs
def spByR (K : PySem.W.Frag) (C : Addr) : Sp := fun vs H Q _ => ∃ (h : Addr) (x : V) (rs : List Str) (ds : List Ed) (b : Bool), vs = [.ref h, x] ∧ HouseAt H C h rs ds ∧ rs.length < 60 ∧ MayBy K H rs x b ∧ ∀ H', Gr H H' → Q (.bl b) H'
abbrev NIb : List Str := ["house", "thing", "room"]
abbrev NIl : List Str := ["house", "thing", "room"]
theorem all_same {rs fs : List Str} {p : Str → Bool} (h1 : ∀ r ∈ rs, r ∈ fs) (h2 : ∀ f ∈ fs, f ∈ rs) : fs.all p = rs.all fun r => decide (r ∈ fs) && p r := by
  cases e : fs.all p with
  | true => exact (List.all_eq_true.mpr fun r hr => by rw [decide_eq_true (h1 r hr), Bool.true_and]; exact List.all_eq_true.mp e r (h1 r hr)).symm
  | false =>
    refine Eq.symm ?_
    cases e2 : rs.all fun r => decide (r ∈ fs) && p r with
    | false => rfl
    | true =>
      rw [← e]
      refine (List.all_eq_true.mpr fun f hf => ?_).symm
      have z := List.all_eq_true.mp e2 f (h2 f hf)
      rw [Bool.and_eq_true] at z
      exact z.2
end
end Lamp
set_option maxHeartbeats 8000000
namespace Lamp
open PySem PySem.Spec PyProof.Rows L2
/-! ### promises put together -/
section
variable {P : Program} {w : World} {K : PySem.W.Frag} {mg : Str → Option Value} {base : Heap} {k : Nat} {f : Addr} {fd : FuncData} {ps : List Str} {sp sp' : Sp} {CX : CXT}
theorem FnOk.both (a : FnOk P w K mg base CX k f fd ps sp) (b : FnOk P w K mg base CX k f fd ps sp') : FnOk P w K mg base CX k f fd ps fun vs H Q E => sp vs H Q E ∨ sp' vs H Q E :=
  ⟨fun vs H Q E h => h.elim (a.len vs H Q E) (b.len vs H Q E), fun A outer s H args us vs Q E hr he hb hv h => h.elim (a.run A outer s H args us vs Q E hr he hb hv) (b.run A outer s H args us vs Q E hr he hb hv)⟩
/-- what lets nothing out lets out what may come -/
theorem FnOk.lets (a : FnOk P w K mg base CX0 k f fd ps sp) : FnOk P w K mg base CX k f fd ps sp :=
  ⟨a.len, fun A outer s H args us vs Q E hr he hb hv h => codeAny_mono (a.run A outer s H args us vs Q E hr he hb hv h) fun r s' q => by
    cases r with
    | error e => exact (show False from q).elim
    | ok fl =>
      cases fl with
      | ret u => exact q
      | next => exact False.elim q
      | brk => exact False.elim q
      | cont => exact False.elim q⟩
end
/-- a def that may raise, at its name -/
def StandsX (P : Program) (w : World) (K : PySem.W.Frag) (mg : Str → Option Value) (base : Heap) (k : Nat) (x : Str) (ps : List Str) (sp : Sp) : Prop :=
  ∃ (f : Addr) (fd : FuncData), FnOk P w K mg base (L2.CX P w) k f fd ps sp ∧ mg x = some (.ref f) ∧ PySem.W.keepIn K (.ref f) = true ∧ L2.Binds K fd ps []
/-! ### an error class of one field -/
def spErr1 (K : PySem.W.Frag) (f : Str) : Sp := fun vs H Q _ => ∃ (a C : Addr) (y : V), vs = [.ref a, y] ∧ OexC K C ∧ PySem.W.findIn K (.ref C) f = some none ∧ H a = some (exo a C none) ∧
  ∀ d, H d = none → d ≠ a → Q .non (upd (upd H d (exd d [(f, y)])) a (exo a C (some d)))
structure ErrI (P : Program) (w : World) (K : PySem.W.Frag) (mg : Str → Option Value) (base : Heap) (x f : Str) (C : Addr) : Prop where
  oe : OexC K C
  gC : mg x = some (.ref C)
  nF : PySem.W.findIn K (.ref C) f = some none
  ini : ∃ (fI : Addr) (fd : FuncData), PySem.W.findIn K (.ref C) "__init__" = some (some (.ref fI)) ∧ PySem.W.typeIn K (.ref fI) = some (.type "function") ∧ FnOk P w K mg base CX0 1 fI fd ["self", f] (spErr1 K f) ∧ L2.Binds K fd ["self", f] []
/-- an error with what it keeps, made since H -/
def Thrown (C : Addr) (f : Str) (y : V) (H H' : Hp) (E : XK) : Prop := ∀ d, H d = none → H' d = some (.xd [(f, y)]) → E (.ref C) (some d) H'
theorem made_gr {H : Hp} {a d C : Addr} {f : Str} {y : V} (na : H a = none) (nd : H d = none) (ne : d ≠ a) :
    Gr H (upd (del (upd (upd (upd H a (exo a C none)) d (exd d [(f, y)])) a (exo a C (some d))) a) d (.xd [(f, y)])) := by
  refine ⟨fun b o e => ?_, fun b z => ?_⟩
  · have ba := ne_of_none e na
    have bd := ne_of_none e nd
    rw [upd_ne bd, del_ne ba, upd_ne ba, upd_ne bd, upd_ne ba]
    exact e
  · obtain ⟨bd, z⟩ := none_upd z
    by_cases ba : b = a
    · rw [ba]
      exact na
    · rw [del_ne ba, upd_ne ba, upd_ne bd, upd_ne ba] at z
      exact z
section
variable {P : Program} {w : World} {K : PySem.W.Frag} {mg : Str → Option Value} {base : Heap} {C CB : Addr}
/-! ### need_carrying, is_carrying of anything -/
def spNeedA (K : PySem.W.Frag) (C CB : Addr) : Sp := fun vs H Q E => ∃ (h : Addr) (x : V) (rs : List Str) (ds : List Ed) (o : Option Nat), vs = [.ref h, x] ∧ HouseAt H C h rs ds ∧ Tells K H rs ds x o ∧
  ((o = none ∧ ∀ H', Gr H H' → Q .non H') ∨ ∃ i : Nat, o = some i ∧ ∀ H' d, Gr H H' → H d = none → H' d = some (.xd [(("index" : Str), .int (i : Int))]) → E (.ref CB) (some d) H')
def spNeedG (K : PySem.W.Frag) (C : Addr) : Sp := fun vs H Q _ => ∃ (h : Addr) (x : V) (rs : List Str) (ds : List Ed), vs = [.ref h, x] ∧ HouseAt H C h rs ds ∧ Tells K H rs ds x none ∧ ∀ H', Gr H H' → Q .non H'
end
end Lamp
set_option maxHeartbeats 8000000
namespace Lamp
open PySem PySem.Spec PyProof.Rows L2
/-! ### reach, inside of some rooms -/
/-- the doors between rooms of lit -/
def kept (lit : List Str) (ds : List Ed) : List Ed := ds.filter fun d => decide (d.1 ∈ lit) && decide (d.2 ∈ lit)
theorem kept_mem {lit : List Str} {ds : List Ed} {d : Ed} : d ∈ kept lit ds ↔ d ∈ ds ∧ d.1 ∈ lit ∧ d.2 ∈ lit := by
  unfold kept
  rw [List.mem_filter, Bool.and_eq_true, decide_eq_true_eq, decide_eq_true_eq]
theorem near_ends {rs : List Str} {ds : List Ed} (ends : ∀ d ∈ ds, d.1 ∈ rs ∧ d.2 ∈ rs ∧ d.1 ≠ d.2) {x o : Str} (h : o ∈ nearOf ds x) : o ∈ rs ∧ ((x, o) ∈ ds ∨ (o, x) ∈ ds) := by
  obtain ⟨d, hd, z⟩ := near_mem.mp h
  obtain ⟨h1, h2, _⟩ := ends d hd
  obtain ⟨u, v⟩ := d
  rcases z with ⟨rfl, rfl⟩ | ⟨_, rfl, rfl⟩
  · exact ⟨h2, .inl hd⟩
  · exact ⟨h1, .inr hd⟩
theorem near_of {rs : List Str} {ds : List Ed} (ends : ∀ d ∈ ds, d.1 ∈ rs ∧ d.2 ∈ rs ∧ d.1 ≠ d.2) {x o : Str} (h : (x, o) ∈ ds ∨ (o, x) ∈ ds) : o ∈ nearOf ds x := by
  rcases h with h | h
  · exact near_mem.mpr ⟨_, h, .inl ⟨rfl, rfl⟩⟩
  · exact near_mem.mpr ⟨_, h, .inr ⟨(ends _ h).2.2, rfl, rfl⟩⟩
theorem conn_in {rs lit fs : List Str} {ds : List Ed} (ends : ∀ d ∈ ds, d.1 ∈ rs ∧ d.2 ∈ rs ∧ d.1 ≠ d.2) {s0 : Str} (h0 : s0 ∈ fs) (cl : ∀ r ∈ fs, ∀ o ∈ nearOf ds r, o ∈ lit → o ∈ fs) {r : Str} (c : Conn (kept lit ds) s0 r) : r ∈ fs := by
  induction c with
  | refl => exact h0
  | fwd _ m ih =>
    obtain ⟨m1, m2, m3⟩ := kept_mem.mp m
    exact cl _ ih _ (near_of ends (.inl m1)) m3
  | bwd _ m ih =>
    obtain ⟨m1, m2, m3⟩ := kept_mem.mp m
    exact cl _ ih _ (near_of ends (.inr m1)) m2
theorem conn_step {rs lit : List Str} {ds : List Ed} (ends : ∀ d ∈ ds, d.1 ∈ rs ∧ d.2 ∈ rs ∧ d.1 ≠ d.2) {s0 x o : Str} (c : Conn (kept lit ds) s0 x) (hx : x ∈ lit) (ho : o ∈ nearOf ds x) (hl : o ∈ lit) : Conn (kept lit ds) s0 o := by
  rcases (near_ends ends ho).2 with h | h
  · exact .fwd c (kept_mem.mpr ⟨h, hx, hl⟩)
  · exact .bwd c (kept_mem.mpr ⟨h, hl, hx⟩)
section
variable {P : Program} {w : World} {K : PySem.W.Frag} {mg : Str → Option Value} {base : Heap} {C : Addr}
def spReachG (K : PySem.W.Frag) (C : Addr) : Sp := fun vs H Q _ => ∃ (h ia : Addr) (s0 : Str) (rs lit : List Str) (ds : List Ed), vs = [.ref h, .str s0, .ref ia] ∧ HouseAt H C h rs ds ∧ SqL K H ia (lit.map V.str) ∧ lit.Nodup ∧ (∀ r ∈ lit, r ∈ rs) ∧ lit.length < 60 ∧ s0 ∈ lit ∧ (∀ d ∈ ds, d.1 ∈ rs ∧ d.2 ∈ rs ∧ d.1 ≠ d.2) ∧
  ∀ H' p ys, ys.Nodup → (∀ r, r ∈ ys ↔ Conn (kept lit ds) s0 r) → (∀ r ∈ ys, r ∈ lit) → sortedS ys = true → H' p = some (.lst (ys.map V.str)) → Gr H H' → H p = none → Q (.ref p) H'
theorem ok_reachG {f : Addr} {fd : FuncData} (F : Fun K "reach" "reach" s_reach f fd) (T : TxtQ mg) (M : HasH P w K mg base C) : FnOk P w K mg base CX0 2 f fd ["house", "start", "inside"] (spReachG K C) := by
  obtain ⟨fn, dn, mn, Gn, bn⟩ := M.near
  refine F.ok scRe (fun vs H Q E h => ?_) (fun cdv A outer s H vs Q E hr h => ?_)
  · obtain ⟨h, ia, s0, rs, lit, ds, rfl, _⟩ := h
    rfl
  · obtain ⟨h, ia, s0, rs, lit, ds, rfl, hh, hia, nd, lsub, hl, m0, ends, k⟩ := h
    have hu := Nat.lt_of_le_of_lt (Nat.add_le_add_left (show 1 ≤ 64 by decide) _) hr.units
    refine ⟨_, pss_cons (ps_setDc (i := 3) (tk := tVar 7) (tv := tC (.bl true)) (own := [("room", 7)]) (g := gName 7) (tt := tYes) rfl scRe.nd rfl rfl (sw_dict rfl rfl rfl (by decide +kernel)) (pi_list (pv 2)) (blkOk_by (N := NRe) (sc := defScope s_reach) (by decide +kernel))
        (fun _ _ _ _ _ => pg_name (i := 7) scRe.nd rfl (Or.inl rfl)) (fun _ _ _ _ _ => pts_nil) (fun _ _ _ _ _ => pv 7) (fun _ _ _ _ _ => pe_bl))
      (pss_cons (ps_set (i := 4) scRe.nd rfl (Or.inl rfl) (pe_disp (pps_cons (pv 1) pe_bl pps_nil) (by rfl) (by rfl) (by simp) (by decide)))
      (pss_cons (ps_set (i := 5) scRe.nd rfl (Or.inl rfl) (pe_lst (pa_cons (pv 1) pa_nil)))
      (pss_cons (ps_while PassesOwn.never (pt_truth (pv 5) (fun _ => rfl))
        (pss_one (ps_for PassesOwn.never rfl (pi_list (pe_meth (pv 0) M.cls.cls mn Gn hr bn .nil pass0 (pa_cons (pe_bm0 PySem.F.plainAttrs_list PySem.F.slot_list_pop PySem.F.type_list_pop mt_pop (pv 5)) pa_nil))) (pg_name (i := 6) scRe.nd rfl (Or.inl rfl))
          (pss_one (ps_if (PW.pt (pw_and (pt_cmp (pc_din hu (pv 6) (pv 3)) (by rfl)) (pw_and1 (pt_cmp (pc_dnotin hu (pv 6) (pv 4)) (by rfl)))))
            (pss_cons (ps_dput hu (pv 4) (pv 6) pe_bl (by rfl)) (pss_one (ps_expr (pe_bm PySem.F.plainAttrs_list PySem.F.slot_list_append PySem.F.type_list_append mt_append (pv 5) (pa_cons (pv 6) pa_nil) (by rfl) (by rfl)))))
            pss_nil)))))
      (pss_one (ps_ret (pe_callB (call_sortedD rfl) (by rfl) T.srt PyProof.Rows.Boot.sorted (pa_cons (pv 4) pa_nil))))))), ?_⟩
    refine ⟨_, rfl, ia, rfl, ⟨_, hia⟩, fun A1 hA1 => ?_⟩
    refine dc_it (walk_list (xs := lit.map V.str)) (fun j H' => H' A1 = some (.dK (SM (lit.take j))) ∧ Same H H' ∧ ∀ x, H' x = none → H x = none) ⟨upd_same, same_upd hA1, fun x z => (none_upd z).2⟩ (fun j H' _ g => g.2.1.seq hia) ?_ ?_
    · rintro j v H' H'' hj ⟨g1, g2, g3⟩ ⟨rfl, hv⟩
      have hj2 : j < lit.length := by simpa using hj
      obtain rfl : V.str lit[j] = v := by
        rw [List.getElem?_map, List.getElem?_eq_getElem hj2] at hv
        exact Option.some.inj hv
      refine ⟨rfl, _, rfl, _, Sum.inr lit[j], rfl, g1, ?_, ?_, ?_, fun x z => g3 x (none_upd z).2⟩
      · rw [sm_len, List.length_take]
        exact Nat.lt_of_le_of_lt (Nat.min_le_left _ _) (Nat.lt_trans (Nat.lt_trans hj2 hl) (by decide))
      · rw [upd_same, sm_new (take_not nd hj2), List.take_append_getElem hj2]
      · intro x o e
        rw [upd_ne (ne_of_none e hA1)]
        exact g2 x o e
    · rintro H2 ⟨g1, g2, g3⟩
      rw [List.length_map, List.take_length] at g1
      refine fun F1 hF1 => ⟨_, rfl, upd_same, [(Sum.inr s0, .bl true)], rfl, (by show 1 ≤ 15; decide), ?_⟩
      rw [show mergeK ([] : List (Key × V)) [(Sum.inr s0, V.bl true)] = SM [s0] from rfl]
      refine ⟨_, rfl, by show 1 ≤ sizeLine; decide, fun W1 hW1 => ?_⟩
      have fa : F1 ≠ A1 := (ne_of_none g1 hF1).symm
      have nW2 := (none_upd (none_upd hW1).2).2
      have R0 : RInv H (upd (upd (upd H2 F1 (.dK [])) F1 (.dK (SM [s0]))) W1 (.lst ([s0].map V.str))) A1 F1 W1 lit [s0] [s0] := by
        have wf : F1 ≠ W1 := fun z => (none_upd hW1).1 z.symm
        have wa : A1 ≠ W1 := ne_of_none g1 nW2
        refine ⟨by rw [upd_ne wa, upd_ne fa.symm, upd_ne fa.symm]; exact g1, by rw [upd_ne wf, upd_same], upd_same, hA1, g3 _ hF1, g3 _ nW2, fa, fun x o e => ?_, fun x z => g3 x (none_upd (none_upd (none_upd z).2).2).2⟩
        have e2 := g2 x o e
        rw [upd_ne (ne_of_none e2 nW2), upd_ne (ne_of_none e2 hF1), upd_ne (ne_of_none e2 hF1)]
        exact e2
      have eσ : ((List.set (L2.start NRe [V.ref h, V.str s0, V.ref ia]) 3 (some (V.ref A1))).set 4 (some (V.ref F1))).set 5 (some (V.ref W1)) = [some (.ref h), some (.str s0), some (.ref ia), some (.ref A1), some (.ref F1), some (.ref W1), none, none] := rfl
      dsimp only [gName]
      rw [eσ]
      refine while_ex (fun _ _ => False) (fun _ _ z => z.elim) (fun _ => ?_)
      refine while_by (fun σ' H' => ∃ (fs ws : List Str) (v6 v7 : Option V), σ' = [some (.ref h), some (.str s0), some (.ref ia), some (.ref A1), some (.ref F1), some (.ref W1), v6, v7] ∧ RInv H H' A1 F1 W1 lit fs ws ∧ fs.Nodup ∧ (∀ r ∈ fs, r ∈ lit ∧ Conn (kept lit ds) s0 r) ∧ (∀ r ∈ ws, r ∈ fs) ∧ s0 ∈ fs ∧ ws.length ≤ fs.length ∧ (∀ r ∈ fs, r ∉ ws → ∀ o ∈ nearOf ds r, o ∈ lit → o ∈ fs))
        (fun _ H' => (match H' F1 with
          | some (.dK kvs) => 2 * (lit.length - kvs.length)
          | _ => 0) + (match H' W1 with
          | some (.lst xs) => xs.length
          | _ => 0)) ⟨[s0], [s0], _, _, rfl, R0, List.nodup_cons.mpr ⟨by simp, List.nodup_nil⟩, fun r hr => by rw [List.mem_singleton.mp hr]; exact ⟨m0, .refl _⟩, fun r hr => hr, List.mem_singleton.mpr rfl, Nat.le_refl _, fun r hr hn => absurd hr hn⟩ ?_ ?_
      · rintro σ' H' ⟨fs, ws, v6, v7, rfl, R, fnd, fsub, wsub, fs0, wle, cl⟩
        refine ⟨_, rfl, _, .inl ⟨_, SqL.of R.w, rfl⟩, ?_⟩
        cases we : ws.reverse with
        | nil =>
          obtain rfl : ws = [] := List.reverse_eq_nil_iff.mp we
          refine iteF ?_
          refine ⟨_, rfl, F1, _, fs, rfl, .inl R.f, ?_, ?_, fun ys p hp hs hn => ?_⟩
          · unfold SM
            rw [List.map_map]
            rfl
          · exact Nat.lt_of_le_of_lt (nodup_le fnd fun r hr => (fsub r hr).1) (by omega)
          · refine k _ p ys (hp.nodup_iff.mpr fnd) (fun r => ⟨fun m => (fsub r (hp.mem_iff.mp m)).2, fun c => hp.mem_iff.mpr (conn_in ends fs0 (fun q hq o ho => cl q hq (by simp) o ho) c)⟩) (fun r m => (fsub r (hp.mem_iff.mp m)).1) hs upd_same ⟨R.same.trans (same_upd hn), fun x z => R.gone x (none_upd z).2⟩ (R.gone p hn)
        | cons x wr =>
          obtain ⟨w0, rfl⟩ : ∃ w0, ws = w0 ++ [x] := ⟨wr.reverse, by rw [← List.reverse_reverse ws, we, List.reverse_cons]⟩
          refine iteT2 (by simp) ?_
          have hh' := hh.same R.same
          have hat := hh'
          obtain ⟨dx, ra, da, na, tsd, i1, i2, i3, i4, nf, i5, i6⟩ := hat.at_
          have mx := fsub x (wsub x (List.mem_append_right _ (List.mem_singleton.mpr rfl)))
          have mxr : x ∈ rs := lsub x mx.1
          have R1 : RInv H (upd H' W1 (.lst (w0.map V.str))) A1 F1 W1 lit fs w0 := R.setW
          have ew : ((w0 ++ [x]).map V.str).dropLast = w0.map V.str := by
            rw [List.map_append]
            exact List.dropLast_concat
          have lw : ((w0 ++ [x]).map V.str)[((w0 ++ [x]).map V.str).length - 1]? = some (.str x) := by
            simp
          refine ⟨_, rfl, h, dx, _, rfl, i1, by rfl, _, rfl, .inl ⟨rfl, _, SqL.of R.w⟩, W1, _, .str x, rfl, rfl, R.w, lw, ?_⟩
          rw [ew]
          refine ⟨h, x, rs, ds, rfl, hh.same R1.same, mxr, fun H4 p s4 o4 n4 e4 => ?_⟩
          have R4 := R1.ext s4 o4
          have pF : p ≠ F1 := (ne_of_none R1.f n4).symm
          have pW : p ≠ W1 := (ne_of_none R1.w n4).symm
          have nx : x ∉ fs → False := fun z => z (wsub x (List.mem_append_right _ (List.mem_singleton.mpr rfl)))
          refine ⟨p, rfl, ⟨_, SqL.of e4⟩, ?_⟩
          refine for_it (walk_list (xs := (nearOf ds x).map V.str)) (fun j σ'' H'' => ∃ (ad : List Str) (u6 u7 : Option V), σ'' = [some (.ref h), some (.str s0), some (.ref ia), some (.ref A1), some (.ref F1), some (.ref W1), u6, u7] ∧ RInv H H'' A1 F1 W1 lit (fs ++ ad) (w0 ++ ad) ∧ (fs ++ ad).Nodup ∧ (∀ r ∈ fs ++ ad, r ∈ lit ∧ Conn (kept lit ds) s0 r) ∧ (∀ o ∈ (nearOf ds x).take j, o ∈ lit → o ∈ fs ++ ad) ∧ H'' p = some (.lst ((nearOf ds x).map V.str))) ?_ ?_ ?_ ?_
          · exact ⟨[], _, _, rfl, by rw [List.append_nil, List.append_nil]; exact R4, by rw [List.append_nil]; exact fnd, by rw [List.append_nil]; exact fsub, fun o ho => by simp at ho, e4⟩
          · rintro j σ'' H'' _ ⟨ad, u6, u7, rfl, q1, q2, q3, q4, q5⟩
            exact SqL.of q5
          · rintro j v σ'' H'' H5 hj ⟨ad, u6, u7, rfl, q1, q2, q3, q4, q5⟩ ⟨rfl, hv⟩
            have hj2 : j < (nearOf ds x).length := by simpa using hj
            obtain rfl : V.str (nearOf ds x)[j] = v := by
              rw [List.getElem?_map, List.getElem?_eq_getElem hj2] at hv
              exact Option.some.inj hv
            generalize eo : (nearOf ds x)[j] = o
            have tk : (nearOf ds x).take (j + 1) = (nearOf ds x).take j ++ [o] := by
              rw [← eo]
              exact (List.take_append_getElem hj2).symm
            have mno : o ∈ nearOf ds x := eo ▸ List.getElem_mem hj2
            have lf : (fs ++ ad).length ≤ lit.length := nodup_le q2 fun r hr => (q3 r hr).1
            refine ⟨_, rfl, _, rfl, A1, _, rfl, DGet.k (k := Sum.inr o) q1.a, _, rfl, ?_⟩
            rw [sm_get]
            by_cases mo : o ∈ lit
            case neg =>
              refine iteF2 (decide_eq_false mo) (iteF2 rfl ⟨ad, _, _, rfl, q1, q2, q3, fun z hz zl => ?_, q5⟩)
              rw [tk] at hz
              rcases List.mem_append.mp hz with hz | hz
              · exact q4 z hz zl
              · rw [List.mem_singleton.mp hz] at zl
                exact absurd zl mo
            refine iteT2 (decide_eq_true mo) ⟨_, rfl, _, rfl, F1, _, rfl, DGet.k (k := Sum.inr o) q1.f, _, rfl, ?_⟩
            rw [sm_get]
            by_cases m : o ∈ fs ++ ad
            · refine iteF2 (by rw [decide_eq_true m]; rfl) ⟨ad, _, _, rfl, q1, q2, q3, fun z hz zl => ?_, q5⟩
              rw [tk] at hz
              rcases List.mem_append.mp hz with hz | hz
              · exact q4 z hz zl
              · rw [List.mem_singleton.mp hz]
                exact m
            · refine iteT2 (by rw [decide_eq_false m]; rfl) ?_
              refine ⟨_, rfl, _, rfl, F1, _, rfl, DPut.k (k := Sum.inr o) q1.f (by rw [sm_len]; exact Nat.lt_of_le_of_lt lf (Nat.lt_trans hl (by decide))), ?_⟩
              rw [sm_new m, List.append_assoc]
              have q6 : RInv H (upd H5 F1 (.dK (SM (fs ++ (ad ++ [o]))))) A1 F1 W1 lit (fs ++ (ad ++ [o])) (w0 ++ ad) := q1.setF
              have q7 : RInv H (upd (upd H5 F1 (.dK (SM (fs ++ (ad ++ [o]))))) W1 (.lst ((w0 ++ (ad ++ [o])).map V.str))) A1 F1 W1 lit (fs ++ (ad ++ [o])) (w0 ++ (ad ++ [o])) := q6.setW
              have em : (w0 ++ (ad ++ [o])).map V.str = (w0 ++ ad).map V.str ++ [V.str o] := by simp
              rw [em] at q7
              refine ⟨_, rfl, .inl ⟨rfl, _, SqL.of q6.w⟩, _, rfl, W1, _, .str o, rfl, rfl, q6.w, ?_, ?_⟩
              · have l1 : ((w0 ++ ad).map V.str).length < 1000 := by
                  rw [List.length_map, List.length_append]
                  rw [List.length_append] at lf wle
                  omega
                exact Nat.lt_trans l1 (by decide)
              · refine ⟨ad ++ [o], _, _, rfl, q7, ?_, fun r hr => ?_, fun z hz zl => ?_, ?_⟩
                · rw [← List.append_assoc]
                  exact List.nodup_append.mpr ⟨q2, List.nodup_cons.mpr ⟨by simp, List.nodup_nil⟩, fun y hy z hz e => m (by rw [← List.mem_singleton.mp hz, ← e]; exact hy)⟩
                · rw [← List.append_assoc] at hr
                  rcases List.mem_append.mp hr with hr | hr
                  · exact q3 r hr
                  · rw [List.mem_singleton.mp hr]
                    exact ⟨mo, conn_step ends mx.2 mx.1 mno mo⟩
                · rw [← List.append_assoc]
                  rw [tk] at hz
                  rcases List.mem_append.mp hz with hz | hz
                  · exact List.mem_append_left _ (q4 z hz zl)
                  · exact List.mem_append_right _ hz
                · rw [upd_ne pW, upd_ne pF]
                  exact q5
          · rintro σ'' H'' ⟨ad, u6, u7, rfl, q1, q2, q3, q4, q5⟩
            have lf : (fs ++ ad).length ≤ lit.length := nodup_le q2 fun r hr => (q3 r hr).1
            rw [List.length_append] at lf wle
            rw [List.length_map, List.take_length] at q4
            refine ⟨⟨fs ++ ad, w0 ++ ad, _, _, rfl, q1, q2, q3, fun r hr => ?_, List.mem_append_left _ fs0, ?_, fun r hr hn o ho ol => ?_⟩, ?_⟩
            · rcases List.mem_append.mp hr with hr | hr
              · exact List.mem_append_left _ (wsub r (List.mem_append_left _ hr))
              · exact List.mem_append_right _ hr
            · rw [List.length_append, List.length_append]
              simp only [List.length_cons, List.length_nil] at wle
              omega
            · rcases List.mem_append.mp hr with hr | hr
              · by_cases e : r = x
                · exact q4 o (e ▸ ho) ol
                · refine List.mem_append_left _ (cl r hr (fun z => ?_) o ho ol)
                  rcases List.mem_append.mp z with z | z
                  · exact hn (List.mem_append_left _ z)
                  · exact e (List.mem_singleton.mp z)
              · exact absurd (List.mem_append_right _ hr) hn
            · show (match H'' F1 with
                | some (.dK kvs) => 2 * (lit.length - kvs.length)
                | _ => 0) + (match H'' W1 with
                | some (.lst xs) => xs.length
                | _ => 0) < (match H' F1 with
                | some (.dK kvs) => 2 * (lit.length - kvs.length)
                | _ => 0) + (match H' W1 with
                | some (.lst xs) => xs.length
                | _ => 0)
              rw [q1.f, q1.w, R.f, R.w]
              show 2 * (lit.length - (SM (fs ++ ad)).length) + ((w0 ++ ad).map V.str).length < 2 * (lit.length - (SM fs).length) + ((w0 ++ [x]).map V.str).length
              rw [sm_len, sm_len, List.length_map, List.length_map, List.length_append, List.length_append, List.length_append]
              simp only [List.length_cons, List.length_nil]
              omega
      · rintro σ' H' Q1 Q2 hq ⟨y, e1, b, e2, q⟩
        exact ⟨y, e1, b, e2, hq _ _ q⟩
end
end Lamp
set_option maxHeartbeats 8000000
namespace Lamp
open PySem PySem.Spec PyProof.Rows L2
/-- a def that may raise, where it doesn't -/
theorem FnOk.calm {P : Program} {w : World} {K : PySem.W.Frag} {mg : Str → Option Value} {base : Heap} {k : Nat} {f : Addr} {fd : FuncData} {ps : List Str} {sp sp0 : Sp} (a : FnOk P w K mg base (L2.CX P w) k f fd ps sp) (h : ∀ vs H Q E, sp0 vs H Q E → sp vs H Q fun _ _ _ => False) : FnOk P w K mg base CX0 k f fd ps sp0 :=
  ⟨fun vs H Q E z => a.len vs H Q _ (h vs H Q E z), fun A outer s H args us vs Q E hr he hb hv z => codeAny_mono (a.run A outer s H args us vs Q _ hr he hb hv (h vs H Q E z)) fun r s' q => by
    cases r with
    | error e =>
      obtain ⟨_, _, _, _, _, _, _, _, _, _, _, _, q⟩ := (show L2.CX P w outer H s (fun _ _ _ => False) e s' from q)
      exact q.elim
    | ok fl =>
      cases fl with
      | ret u => exact q
      | next => exact False.elim q
      | brk => exact False.elim q
      | cont => exact False.elim q⟩
theorem StandsX.calm {P : Program} {w : World} {K : PySem.W.Frag} {mg : Str → Option Value} {base : Heap} {k : Nat} {x : Str} {ps : List Str} {sp sp0 : Sp} (a : StandsX P w K mg base k x ps sp) (h : ∀ vs H Q E, sp0 vs H Q E → sp vs H Q fun _ _ _ => False) : Stands P w K mg base k x ps sp0 := by
  obtain ⟨f, fd, a, b, c, d⟩ := a
  exact ⟨f, fd, FnOk.calm a h, b, c, d⟩
/-- lit rooms -/
def litF (rs : List Str) (nv : Str → V) : List Str := rs.filter fun r => posV (nv r)
theorem led_each {rs fs : List Str} {nv : Str → V} (h : ledV rs fs nv = true) : (∀ r ∈ rs, r ∈ fs ∧ numV (nv r) = true) ∧ fs.length = rs.length := by
  unfold ledV at h
  rw [Bool.and_eq_true, Bool.and_eq_true] at h
  refine ⟨fun r hr => ?_, of_decide_eq_true h.1⟩
  have z := List.all_eq_true.mp h.2.1 r hr
  rw [Bool.and_eq_true, decide_eq_true_eq] at z
  exact z
theorem led_lit {rs fs : List Str} {nv : Str → V} (nd : rs.Nodup) (h : ledV rs fs nv = true) : litF rs nv ≠ [] := by
  obtain ⟨each, le⟩ := led_each h
  unfold ledV at h
  rw [Bool.and_eq_true, Bool.and_eq_true] at h
  obtain ⟨r, hr, hp⟩ := List.any_eq_true.mp h.2.2
  have mr := same_mem nd (fun r hr => (each r hr).1) le r hr
  intro z
  have m : r ∈ litF rs nv := List.mem_filter.mpr ⟨mr, hp⟩
  rw [z] at m
  cases m
section
variable {P : Program} {w : World} {K : PySem.W.Frag} {mg : Str → Option Value} {base : Heap} {C CL : Addr}
/-- no ledger: BadLedger with the very thing -/
def spBadL (K : PySem.W.Frag) (C CL : Addr) : Sp := fun vs H _ E => ∃ (h : Addr) (x : V) (rs : List Str) (ds : List Ed), vs = [.ref h, x] ∧ HouseAt H C h rs ds ∧ rs.Nodup ∧ rs.length < 60 ∧ MayLed K H rs x false ∧ ∀ H' d, Gr H H' → H d = none → H' d = some (.xd [(("thing" : Str), x)]) → E (.ref CL) (some d) H'
/-- a ledger -/
structure LedAt (K : PySem.W.Frag) (H : Hp) (rs : List Str) (d : Addr) (fs : List Str) (nv : Str → V) : Prop where
  at_ : H d = some (.dK (TM fs nv))
  kn : ∀ r ∈ fs, KnI K H (nv r)
  len : fs.length < 1000
  led : ledV rs fs nv = true
theorem LedAt.may {H : Hp} {rs : List Str} {d : Addr} {fs : List Str} {nv : Str → V} (l : LedAt K H rs d fs nv) : MayLed K H rs (.ref d) true := .inr ⟨d, fs, nv, rfl, l.at_, l.kn, l.len, l.led.symm⟩
theorem LedAt.up {H H' : Hp} {rs : List Str} {d : Addr} {fs : List Str} {nv : Str → V} (l : LedAt K H rs d fs nv) (s : Same H H') : LedAt K H' rs d fs nv := ⟨s _ _ l.at_, fun r hr => (l.kn r hr).up s, l.len, l.led⟩
def spGoodL (K : PySem.W.Frag) (C : Addr) : Sp := fun vs H Q _ => ∃ (h d : Addr) (rs : List Str) (ds : List Ed) (fs : List Str) (nv : Str → V), vs = [.ref h, .ref d] ∧ HouseAt H C h rs ds ∧ rs.Nodup ∧ rs.length < 60 ∧ LedAt K H rs d fs nv ∧ ∀ H', Gr H H' → Q .non H'
/-! ### find_lit, lit_rooms -/
def spFind (K : PySem.W.Frag) (C : Addr) : Sp := fun vs H Q _ => ∃ (h d : Addr) (rs : List Str) (ds : List Ed) (fs : List Str) (nv : Str → V), vs = [.ref h, .ref d] ∧ HouseAt H C h rs ds ∧ rs.length < 60 ∧ H d = some (.dK (TM fs nv)) ∧ (∀ r ∈ rs, r ∈ fs ∧ numV (nv r) = true) ∧
  ∀ H' p, H' p = some (.lst ((litF rs nv).map V.str)) → Gr H H' → H p = none → Q (.ref p) H'
abbrev NFi : List Str := ["house", "hours", "room"]
def spLitR (K : PySem.W.Frag) (C : Addr) : Sp := fun vs H Q _ => ∃ (h d : Addr) (rs : List Str) (ds : List Ed) (fs : List Str) (nv : Str → V), vs = [.ref h, .ref d] ∧ HouseAt H C h rs ds ∧ rs.Nodup ∧ rs.length < 60 ∧ LedAt K H rs d fs nv ∧
  ∀ H' p, H' p = some (.lst ((litF rs nv).map V.str)) → Gr H H' → H p = none → Q (.ref p) H'
end
end Lamp
set_option maxHeartbeats 4000000
namespace Lamp
open PySem PySem.Spec PyProof.Rows L2
/-! ### min of texts that ascend -/
theorem argBest_zero (bt : Nat → Nat → Bool) (h : ∀ i, 0 < i → bt i 0 = false) : ∀ k, argBest bt k = 0
  | 0 => rfl
  | k + 1 => by
    show (if bt (k + 1) (argBest bt k) then k + 1 else argBest bt k) = 0
    rw [argBest_zero bt h k, h (k + 1) (Nat.succ_pos _)]
    rfl
def rMinA (K : PySem.W.Frag) : List V → Hp → VK → Prop := fun vs H Q => ∃ (a : Addr) (m : Str) (xs : List Str), vs = [.ref a] ∧ SqL K H a ((m :: xs).map V.str) ∧ (∀ y ∈ xs, ltS y m = false) ∧ Q (.str m) H
theorem cr_minA {X : Cx} (hc : X.calm = true) : CallR X (.builtin "min") (rMinA X.K) := by
  intro pins s σ H vs us Q I r h
  obtain ⟨a, m, xs0, rfl, hs, asc, q⟩ := h
  generalize exs : m :: xs0 = xs at hs
  obtain ⟨its, rv, hl, _⟩ := I.list hs
  rw [Vals.ref1 r]
  have hlen : its.length = xs.length := by
    have z := rv.length
    rw [List.length_map] at z
    exact z.symm
  have hlt : a < s.heap.objs.size := by
    obtain ⟨_, e, _⟩ := hl.isList
    exact Heap.lt_size e
  refine call_min_walk (iter_any hl.isList fun s₂ e2 st hn => ?_)
  subst e2
  have pos : 0 < its.toArray.size := by
    rw [List.size_toArray, hlen, ← exs]
    exact Nat.succ_pos _
  let bt : Nat → Nat → Bool := fun i j => ltS (xs.getD i m) (xs.getD j m)
  have b0 : ∀ i, 0 < i → bt i 0 = false := fun i hi => by
    show ltS (xs.getD i m) (xs.getD 0 m) = false
    rw [← exs]
    obtain ⟨j, rfl⟩ : ∃ j, i = j + 1 := ⟨i - 1, by omega⟩
    show ltS (xs0.getD j m) m = false
    rw [List.getD_eq_getElem?_getD]
    cases e : xs0[j]? with
    | none => exact ltS_irr m
    | some y => exact asc y (List.mem_of_getElem? e)
  refine ⟨_, _, _, _, _, _, bt, rfl, Walks.list (A := X.A.in1) (I.ok.hd hc) _ a hn its.toArray, st, fun b hb => ?_, pos, fun i j vi vj s' Q' E' hi hj hq => ?_, fun v h' tk hP hk => ?_⟩
  · have sz : (s.heap.push { cls := .type "list_iterator", data := .fields #[.ref a, .int 0 0] }).objs.size = s.heap.objs.size + 1 := by
      show (s.heap.objs.push _).size = _
      rw [Array.size_push]
    show b < (s.heap.push { cls := .type "list_iterator", data := .fields #[.ref a, .int 0 0] }).objs.size
    rw [sz]
    rcases List.mem_cons.mp hb with e | hb
    · rw [e]
      exact Nat.lt_succ_self _
    · rw [List.mem_singleton.mp hb]
      exact Nat.lt_succ_of_lt hlt
  · obtain ⟨x, t, hx, rfl⟩ := vals_strs rv (i := i) (v := vi) (by simpa using hi)
    obtain ⟨y, u, hy, rfl⟩ := vals_strs rv (i := j) (v := vj) (by simpa using hj)
    replace hq : Q' (.bool (ltS (xs.getD i m) (xs.getD j m))) s' := hq
    rw [List.getD_eq_getElem?_getD, List.getD_eq_getElem?_getD, hx, hy] at hq
    exact PyProof.Rows.lt_str hq
  · rw [argBest_zero bt b0] at hP
    obtain ⟨x, t, hx, rfl⟩ := vals_strs rv (i := 0) (v := v) (by simpa using hP)
    rw [← exs] at hx
    obtain rfl : m = x := Option.some.inj hx
    refine ⟨.str m, H, I.kept fun b o eo => hk b o (fun hmem => ?_) (Heap.get?_push_of_some _ eo), ⟨t, rfl⟩, q⟩
    rcases List.mem_cons.mp hmem with e1 | hmem
    · exact absurd (e1 ▸ Heap.lt_size eo) (Nat.lt_irrefl _)
    · cases hmem
/-- min(x, default=d) -/
def rMinDA (K : PySem.W.Frag) : List V → List V → Hp → VK → Prop := fun vs zs H Q => ∃ (a : Addr) (d : V) (xs : List Str), vs = [.ref a] ∧ zs = [d] ∧ SqL K H a (xs.map V.str) ∧ ((xs = [] ∧ Q d H) ∨ ∃ m ys, xs = m :: ys ∧ (∀ y ∈ ys, ltS y m = false) ∧ Q (.str m) H)
theorem reads_texts {h : Heap} : ∀ {xs : List Str} {us : List Value}, Vals (xs.map V.str) us → ReadsAll h us (xs.map PyData.str) []
  | [], _, r => by
    cases r
    exact .nil
  | x :: xs, _, r => by
    cases r with
    | cons r1 r2 =>
      obtain ⟨t, rfl⟩ := r1
      exact .cons (as := []) (bs := []) (.str _ _) (reads_texts r2)
theorem minD_asc {m : Str} : ∀ {ys : List Str}, (∀ y ∈ ys, ltS y m = false) → PySem.W.minD (.str m) (ys.map PyData.str) = .str m
  | [], _ => rfl
  | y :: ys, h => by
    show PySem.W.minD (if PySem.W.dataLt (.str y) (.str m) then PyData.str y else PyData.str m) (ys.map PyData.str) = _
    rw [PySem.W.dataLt_str]
    have z : decide (y.cps.toList < m.cps.toList) = false := h y List.mem_cons_self
    rw [z]
    exact minD_asc fun y hy => h y (List.mem_cons_of_mem _ hy)
theorem depth_texts : ∀ xs : List Str, PyData.depthAll (xs.map PyData.str) = 0
  | [] => rfl
  | x :: xs => by
    show max 0 (PyData.depthAll (xs.map PyData.str)) = 0
    rw [depth_texts xs]
    rfl
theorem cr_minDA {X : Cx} (hc : X.calm = true) (hu : X.A.units + 1 < cLine) : CallRK X (.builtin "min") ["default"] (rMinDA X.K) := by
  intro pins s σ H vs zs us ws Q I r rz h
  obtain ⟨a, d, xs, rfl, rfl, hs, q⟩ := h
  obtain ⟨its, rv, hl, _⟩ := I.list hs
  obtain ⟨u, rfl, ru⟩ := Vals.one rz
  rw [Vals.ref1 r]
  refine PySem.W.min_list_default (xs := xs.map PyData.str) (as := []) (I.ok.hd hc) hl.isList (by simpa using reads_texts rv) ⟨fun x hx y hy => ?_, fun x hx => ?_⟩ (by rw [depth_texts]; show X.A.units + 1 + 0 < cLine; omega) (fun e h' tk hk => ?_) fun y ys i v h' tk bs e hv hr hk => ?_
  · obtain ⟨p, _, rfl⟩ := List.mem_map.mp hx
    obtain ⟨p, _, rfl⟩ := List.mem_map.mp hy
    simp [PySem.W.alike]
  · obtain ⟨p, _, rfl⟩ := List.mem_map.mp hx
    exact fun z => by cases z
  · rcases q with ⟨_, q⟩ | ⟨m, ys, e2, _⟩
    · exact ⟨d, H, I.kept hk, ru, q⟩
    · rw [e2] at e
      cases e
  · rcases q with ⟨e2, _⟩ | ⟨m, zs, rfl, asc, q⟩
    · rw [e2] at e
      cases e
    · obtain ⟨rfl, rfl⟩ := List.cons.inj e
      rw [minD_asc asc] at hr
      cases hr
      exact ⟨.str m, H, I.kept hk, ⟨_, rfl⟩, q⟩
end Lamp
set_option maxHeartbeats 4000000
namespace Lamp
open PySem PySem.Spec PyProof.Rows L2
/-! ### pairs of rooms beside one another, ascending -/
theorem near_sorted {ds : List Ed} (a : Asc ds) (r : Str) : (nearOf ds r).Pairwise fun x y => ltS y x = false := by
  have less : ∀ d ∈ ds, ltS d.1 d.2 = true := a.less
  have srt := a.sort
  unfold nearOf
  rw [List.pairwise_filterMap]
  refine (List.pairwise_iff_forall_sublist.mpr fun {d1 d2} sub => ?_)
  have r12 := List.pairwise_iff_forall_sublist.mp srt sub
  have m1 : d1 ∈ ds := sub.subset List.mem_cons_self
  have m2 : d2 ∈ ds := sub.subset (List.mem_cons_of_mem _ List.mem_cons_self)
  have l1 := less _ m1
  have l2 := less _ m2
  intro x hx y hy
  unfold lexS at r12
  by_cases c1 : d1.1 = r
  · rw [if_pos c1] at hx
    obtain rfl : d1.2 = x := Option.some.inj hx
    by_cases c2 : d2.1 = r
    · rw [if_pos c2] at hy
      obtain rfl : d2.2 = y := Option.some.inj hy
      rw [if_pos (c2.trans c1.symm)] at r12
      exact r12
    · rw [if_neg c2] at hy
      by_cases c3 : d2.2 = r
      · rw [if_pos c3] at hy
        rw [if_neg (fun z => c2 (z.trans c1)), c1] at r12
        rw [c3] at l2
        rw [l2] at r12
        cases r12
      · rw [if_neg c3] at hy
        cases hy
  · rw [if_neg c1] at hx
    by_cases c3 : d1.2 = r
    · rw [if_pos c3] at hx
      obtain rfl : d1.1 = x := Option.some.inj hx
      rw [c3] at l1
      by_cases c2 : d2.1 = r
      · rw [if_pos c2] at hy
        obtain rfl : d2.2 = y := Option.some.inj hy
        rw [c2] at l2
        exact ltS_asym (ltS_tr l1 l2)
      · rw [if_neg c2] at hy
        by_cases c4 : d2.2 = r
        · rw [if_pos c4] at hy
          obtain rfl : d2.1 = y := Option.some.inj hy
          by_cases e : d2.1 = d1.1
          · rw [e]
            exact ltS_irr _
          · rw [if_neg e] at r12
            exact r12
        · rw [if_neg c4] at hy
          cases hy
    · rw [if_neg c3] at hx
      cases hx
theorem rooms_pair {rs : List Str} (s : sortedS rs = true) : rs.Pairwise fun x y => ltS y x = false := by
  have go : ∀ {l : List Str} {p : Str}, risingS p l = true → (p :: l).Pairwise fun x y => ltS y x = false := fun {l} => by
    induction l with
    | nil => exact fun {p} _ => List.pairwise_singleton _ _
    | cons x l ih =>
      intro p h
      have h' : (!ltCps x.cps.toList p.cps.toList && risingS x l) = true := h
      rw [Bool.and_eq_true, Bool.not_eq_true', ltCps_eq] at h'
      have ih' := ih h'.2
      refine List.pairwise_cons.mpr ⟨fun y hy => ?_, ih'⟩
      rcases List.mem_cons.mp hy with rfl | hy
      · exact h'.1
      · exact ltS_neg h'.1 ((List.pairwise_cons.mp ih').1 y hy)
  cases rs with
  | nil => exact .nil
  | cons p l => exact go s
theorem prs_sorted {rs : List Str} {ds : List Ed} (nd : rs.Nodup) (s : sortedS rs = true) (a : Asc ds) : (prs rs ds).Pairwise fun p q => lexS q p = false := by
  unfold prs
  rw [List.pairwise_flatMap]
  refine ⟨fun r _ => ?_, ?_⟩
  · rw [List.pairwise_map]
    refine (near_sorted a r).imp fun {x y} h => ?_
    show (if r = r then ltS y x else _) = false
    rw [if_pos rfl]
    exact h
  · refine ((rooms_pair s).and nd).imp fun {x y} h => ?_
    intro p hp q hq
    obtain ⟨u, _, rfl⟩ := List.mem_map.mp hp
    obtain ⟨v, _, rfl⟩ := List.mem_map.mp hq
    show (if y = x then _ else ltS y x) = false
    rw [if_neg (Ne.symm h.2)]
    exact h.1
theorem doors_nodup {rs : List Str} {es : List Ed} (g : GoodH rs es) : es.Nodup ∧ ∀ e ∈ es, (e.2, e.1) ∉ es := by
  refine ⟨?_, fun e he he2 => ?_⟩
  · have go : ∀ {l : List Ed}, (∀ l1 e l2, l = l1 ++ e :: l2 → e ∉ l2) → l.Nodup := fun {l} => by
      induction l with
      | nil => exact fun _ => List.nodup_nil
      | cons x l ih => exact fun h => List.nodup_cons.mpr ⟨h [] x l rfl, ih fun l1 e l2 q => h (x :: l1) e l2 (by rw [q]; rfl)⟩
    refine go fun l1 e l2 q m => ?_
    refine g.noring e (l1 ++ l2) (by rw [q]; exact List.perm_middle) ?_
    exact .fwd (.refl _) (List.mem_append_right _ m)
  · have pe := List.perm_cons_erase he
    refine g.noring e _ pe ?_
    have ne := (g.ends e he).2.2
    have m : (e.2, e.1) ∈ es.erase e := (List.mem_erase_of_ne (fun z => ne (congrArg Prod.fst z).symm)).mpr he2
    exact .bwd (.refl _) m
/-- all pairs of a house, told by its doors as they were passed -/
theorem prs_perm {rs rs' : List Str} {es ds : List Ed} (g : GoodH rs es) (g' : GoodH rs' ds) (pm : rs'.Perm rs) (nr : ∀ e ∈ es, ∃ d ∈ ds, Nrm d e) (rn : ∀ d ∈ ds, ∃ e ∈ es, Nrm e d) : (prs rs' ds).Perm (es ++ es.map fun e => (e.2, e.1)) := by
  obtain ⟨n1, n2⟩ := doors_nodup g
  have nd : (es ++ es.map fun e => (e.2, e.1)).Nodup := by
    refine List.nodup_append.mpr ⟨n1, ?_, fun p hp q hq e => ?_⟩
    · refine List.pairwise_map.mpr (n1.imp fun {x y} ne h => ne ?_)
      obtain ⟨h1, h2⟩ := Prod.mk.inj h
      exact Prod.ext h2 h1
    · obtain ⟨x, hx, rfl⟩ := List.mem_map.mp hq
      rw [e] at hp
      exact n2 x hx hp
  have sub : ∀ p ∈ es ++ es.map (fun e => (e.2, e.1)), p ∈ prs rs' ds := fun p hp => by
    have go : ∀ {x y : Str}, ((x, y) ∈ es ∨ (y, x) ∈ es) → (x, y) ∈ prs rs' ds := fun {x y} h => by
      have en := g'.ends
      have mem : (x, y) ∈ ds ∨ (y, x) ∈ ds := by
        rcases h with h | h
        · obtain ⟨d, md, z⟩ := nr _ h
          rcases z with z | z
          · rw [z]
            exact .inl md
          · rw [show (x, y) = (d.2, d.1) from z] at h
            obtain ⟨rfl, rfl⟩ := Prod.mk.inj z
            exact .inr md
        · obtain ⟨d, md, z⟩ := nr _ h
          rcases z with z | z
          · rw [z]
            exact .inr md
          · obtain ⟨rfl, rfl⟩ := Prod.mk.inj z
            exact .inl md
      rcases mem with m | m
      · obtain ⟨a1, a2, a3⟩ := en _ m
        exact prs_mem.mpr ⟨a1, near_mem.mpr ⟨_, m, .inl ⟨rfl, rfl⟩⟩⟩
      · obtain ⟨a1, a2, a3⟩ := en _ m
        exact prs_mem.mpr ⟨a2, near_mem.mpr ⟨_, m, .inr ⟨a3, rfl, rfl⟩⟩⟩
    rcases List.mem_append.mp hp with h | h
    · exact go (x := p.1) (y := p.2) (.inl h)
    · obtain ⟨e, he, rfl⟩ := List.mem_map.mp h
      exact go (.inr he)
  have sup : ∀ p ∈ prs rs' ds, p ∈ es ++ es.map fun e => (e.2, e.1) := fun p hp => by
    obtain ⟨x, y⟩ := p
    obtain ⟨mx, my⟩ := prs_mem.mp hp
    have go : ∀ {u v : Str}, (u, v) ∈ ds → (u, v) ∈ es ∨ (v, u) ∈ es := fun {u v} m => by
      obtain ⟨e, me, z⟩ := rn _ m
      rcases z with z | z
      · rw [z]
        exact .inl me
      · obtain ⟨rfl, rfl⟩ := Prod.mk.inj z
        exact .inr me
    have both : (x, y) ∈ es ∨ (y, x) ∈ es := by
      obtain ⟨d, md, z⟩ := near_mem.mp my
      obtain ⟨u, v⟩ := d
      rcases z with ⟨rfl, rfl⟩ | ⟨_, rfl, rfl⟩
      · exact go md
      · exact (go md).symm
    rcases both with h | h
    · exact List.mem_append_left _ h
    · exact List.mem_append_right _ (List.mem_map.mpr ⟨_, h, rfl⟩)
  exact (List.perm_ext_iff_of_nodup (prs_nodup g') nd).mpr fun p => ⟨sup p, sub p⟩
end Lamp
set_option maxHeartbeats 8000000
namespace Lamp
open PySem PySem.Spec PyProof.Rows L2
/-! ### first_parted, lit_parts -/
open Classical in
/-- the rooms of lit to which doors between them lead from r -/
noncomputable def comp (lit : List Str) (ds : List Ed) (r : Str) : List Str := lit.filter fun x => decide (Conn (kept lit ds) r x)
theorem comp_mem {lit : List Str} {ds : List Ed} {r x : Str} : x ∈ comp lit ds r ↔ x ∈ lit ∧ Conn (kept lit ds) r x := by
  unfold comp
  simp only [List.mem_filter, decide_eq_true_eq]
open Classical in
/-- the rooms of lit that hang not with the first -/
noncomputable def apart (lit : List Str) (ds : List Ed) : List Str := match lit with
  | [] => []
  | m :: _ => lit.filter fun x => !decide (Conn (kept lit ds) m x)
def ofS : Option Str → V
  | none => .non
  | some r => .str r
open Classical in
/-- lit parts -/
noncomputable def partsL (lit : List Str) (ds : List Ed) : List (List Str) := (lit.filter fun r => decide ((comp lit ds r).head? = some r)).map (comp lit ds)
def LsAt (H : Hp) (us : List Addr) (Ls : List (List Str)) : Prop := Paired (fun u (L : List Str) => H u = some (.lst (L.map V.str))) us Ls
theorem LsAt.up {H H' : Hp} {us : List Addr} {Ls : List (List Str)} (h : LsAt H us Ls) (s : Same H H') : LsAt H' us Ls := Paired.imp (fun _ _ e => s _ _ e) h
theorem LsAt.put {H H5 : Hp} {D : Addr} {o : HO} {us : List Addr} {Ls : List (List Str)} (q : LsAt H us Ls) (s : Same H H5) (ne : ∀ u ∈ us, u ≠ D) : LsAt (upd H5 D o) us Ls := by
  unfold LsAt at q ⊢
  induction q with
  | nil => exact .nil
  | cons a b ih => exact .cons (by rw [upd_ne (ne _ List.mem_cons_self)]; exact s _ _ a) (ih fun u hu => ne u (List.mem_cons_of_mem _ hu))
theorem LsAt.ne {H : Hp} {D : Addr} {us vs : List Addr} {Ls : List (List Str)} (q : LsAt H us Ls) (h : H D = some (.lst (vs.map V.ref))) (sub : ∀ u ∈ us, u ∈ vs) : ∀ u ∈ us, u ≠ D := fun u mu z => by
  obtain ⟨i, hi, eu⟩ := List.getElem_of_mem mu
  obtain ⟨L1, _, f2⟩ := paired_at q (i := i) (by rw [List.getElem?_eq_getElem hi, eu])
  rw [z, h] at f2
  have f3 := HO.lst.inj (Option.some.inj f2)
  have mu2 : V.ref u ∈ vs.map V.ref := List.mem_map.mpr ⟨u, sub u mu, rfl⟩
  rw [f3] at mu2
  obtain ⟨w, _, ew⟩ := List.mem_map.mp mu2
  cases ew
theorem rising_pair : ∀ {l : List Str} {p : Str}, risingS p l = true ↔ (p :: l).Pairwise fun x y => ltS y x = false
  | [], p => ⟨fun _ => List.pairwise_singleton _ _, fun _ => rfl⟩
  | x :: l, p => by
    have ih := rising_pair (l := l) (p := x)
    have e : risingS p (x :: l) = (!ltCps x.cps.toList p.cps.toList && risingS x l) := rfl
    rw [e, Bool.and_eq_true, Bool.not_eq_true', ltCps_eq, ih]
    constructor
    · rintro ⟨h1, h2⟩
      refine List.pairwise_cons.mpr ⟨fun y hy => ?_, h2⟩
      rcases List.mem_cons.mp hy with rfl | hy
      · exact h1
      · exact ltS_neg h1 ((List.pairwise_cons.mp h2).1 y hy)
    · intro h
      obtain ⟨h1, h2⟩ := List.pairwise_cons.mp h
      exact ⟨h1 x List.mem_cons_self, h2⟩
theorem sortedS_pair {l : List Str} : sortedS l = true ↔ l.Pairwise fun x y => ltS y x = false := by
  cases l with
  | nil => exact ⟨fun _ => .nil, fun _ => rfl⟩
  | cons p l => exact rising_pair
theorem sorted_sub {l m : List Str} (h : sortedS m = true) (s : l.Sublist m) : sortedS l = true := sortedS_pair.mpr ((sortedS_pair.mp h).sublist s)
theorem comp_sorted {lit : List Str} {ds : List Ed} {r : Str} (h : sortedS lit = true) : sortedS (comp lit ds r) = true := sorted_sub h List.filter_sublist
/-- what reach tells is just that -/
theorem reach_comp {lit ys : List Str} {ds : List Ed} {r : Str} (nd : lit.Nodup) (so : sortedS lit = true) (ynd : ys.Nodup) (mem : ∀ x, x ∈ ys ↔ Conn (kept lit ds) r x) (sub : ∀ x ∈ ys, x ∈ lit) (yso : sortedS ys = true) : ys = comp lit ds r := by
  have nd2 : (comp lit ds r).Nodup := nd.filter _
  refine sorted_one ((List.perm_ext_iff_of_nodup ynd nd2).mpr fun x => ?_) yso (comp_sorted so)
  rw [comp_mem]
  exact ⟨fun m => ⟨sub x m, (mem x).mp m⟩, fun m => (mem x).mpr m.2⟩
section
variable {P : Program} {w : World} {K : PySem.W.Frag} {mg : Str → Option Value} {base : Heap} {C CL CN : Addr}
def spFirstG (K : PySem.W.Frag) (C : Addr) : Sp := fun vs H Q _ => ∃ (h ia : Addr) (rs lit : List Str) (ds : List Ed), vs = [.ref h, .ref ia] ∧ HouseAt H C h rs ds ∧ SqL K H ia (lit.map V.str) ∧ lit ≠ [] ∧ lit.Nodup ∧ sortedS lit = true ∧ (∀ r ∈ lit, r ∈ rs) ∧ lit.length < 60 ∧ (∀ d ∈ ds, d.1 ∈ rs ∧ d.2 ∈ rs ∧ d.1 ≠ d.2) ∧
  ∀ H', Gr H H' → Q (ofS (apart lit ds).head?) H'
theorem ok_firstG {f : Addr} {fd : FuncData} (F : Fun K "first_parted" "first_parted" s_first_parted f fd) (T : TxtF mg) (RO : Stands P w K mg base 2 "reach" ["house", "start", "inside"] (spReachG K C)) : FnOk P w K mg base CX0 3 f fd ["house", "some"] (spFirstG K C) := by
  obtain ⟨fr, dr, Gr0, mr, kr, br⟩ := RO
  refine F.ok scFp (fun vs H Q E h => ?_) (fun cdv A outer s H vs Q E hr h => ?_)
  · obtain ⟨h, ia, rs, lit, ds, rfl, _⟩ := h
    rfl
  · obtain ⟨h, ia, rs, lit, ds, rfl, hh, hia, ne, nd, so, sub, hl, ends, k⟩ := h
    have hu := Nat.lt_of_le_of_lt (Nat.add_le_add_left (show 1 ≤ 64 by decide) _) hr.units
    refine ⟨_, pss_cons (ps_set (i := 2) scFp.nd rfl (Or.inr rfl) (pe_call Gr0 hr (by rfl) mr kr br .nil pass0 (pa_cons (pv 0) (pa_cons (pe_callB (cr_minA rfl) (by rfl) T.min PyProof.Rows.Boot.min (pa_cons (pv 1) pa_nil)) (pa_cons (pv 1) pa_nil)))))
      (pss_one (ps_ret (pe_callBK (cr_minDA rfl hu) (by rfl) T.min PyProof.Rows.Boot.min (pa_cons
        (pe_lc (te := tVar 3) (own := [("room", 3)]) (g := gName 3) (tt := tTest (tOp (rIn K true) (tVar 3) (tVar 2))) rfl scFp.nd (pi_list (pv 1)) (blkOk_by (N := NFp) (sc := defScope s_first_parted) (by decide +kernel))
          (fun _ _ _ _ _ => pg_name (i := 3) scFp.nd rfl (Or.inl rfl)) (fun _ _ _ _ _ => by exact (pts_one (pt_cmpR op_notIn_seq (pv 3) (pv 2) (by rfl)))) (fun _ _ _ _ _ => pv 3)) pa_nil)
        (pk_cons pe_non pk_nil)))), ?_⟩
    obtain ⟨m, ls, rfl⟩ : ∃ m ls, lit = m :: ls := by
      cases lit with
      | nil => exact absurd rfl ne
      | cons m ls => exact ⟨m, ls, rfl⟩
    generalize eL : m :: ls = lit at *
    have asc := sortedS_pair.mp so
    have asc2 := asc
    rw [← eL] at asc2
    have mm : m ∈ lit := by rw [← eL]; exact List.mem_cons_self
    refine ⟨_, rfl, _, rfl, ia, m, ls, rfl, by rw [eL]; exact hia, (List.pairwise_cons.mp asc2).1, ?_⟩
    refine ⟨_, rfl, h, ia, m, rs, lit, ds, rfl, hh, hia, nd, sub, hl, mm, ends, fun H1 p ys ynd mem ysub yso hpp g1 hn => ?_⟩
    have ey := reach_comp nd so ynd mem ysub yso
    refine ⟨_, rfl, ia, rfl, ⟨_, g1.s.seq hia⟩, fun D hD => ?_⟩
    have pD : p ≠ D := ne_of_none hpp hD
    classical
    refine lc_it (walk_list (xs := lit.map V.str)) (fun j H' => H' D = some (.lst (((lit.take j).filter fun x => !decide (Conn (kept lit ds) m x)).map V.str)) ∧ Gr H1 H') ⟨by rw [List.take_zero]; exact upd_same, Gr.upd hD⟩ (fun j H' _ g => g.2.s.seq (g1.s.seq hia)) ?_ ?_
    · rintro j v H' H'' hj ⟨q1, q2⟩ ⟨rfl, hv⟩
      have hj2 : j < lit.length := by simpa using hj
      have ej : lit[j]? = some lit[j] := List.getElem?_eq_getElem hj2
      obtain rfl : V.str lit[j] = v := by
        rw [List.getElem?_map, ej] at hv
        exact Option.some.inj hv
      have tk : lit.take (j + 1) = lit.take j ++ [lit[j]] := (List.take_append_getElem hj2).symm
      have mj : lit[j] ∈ lit := List.getElem_mem hj2
      generalize lit[j] = r at tk ej mj
      refine ⟨rfl, _, rfl, _, rfl, p, _, rfl, .inl (SqL.of (q2.s _ _ hpp)), rfl, flat_strs _, _, rfl, ?_⟩
      rw [inv_strs, if_pos rfl, tk, List.filter_append, List.map_append]
      by_cases c : Conn (kept lit ds) m r
      · refine iteF2 (by rw [decide_eq_true ((mem r).mpr c)]; rfl) ⟨?_, q2⟩
        rw [show [r].filter (fun x => !decide (Conn (kept lit ds) m x)) = [] by simp [c], List.map_nil, List.append_nil]
        exact q1
      · refine iteT2 (by rw [decide_eq_false fun z => c ((mem r).mp z)]; rfl) ⟨_, rfl, _, q1, ?_, ?_, q2.put hD⟩
        · rw [List.length_map]
          refine Nat.lt_of_le_of_lt (List.length_filter_le _ _) ?_
          rw [List.length_take]
          exact Nat.lt_of_le_of_lt (Nat.min_le_right _ _) (Nat.lt_trans hl (by decide))
        · rw [upd_same, show [r].filter (fun x => !decide (Conn (kept lit ds) m x)) = [r] by simp [c]]
          rfl
    · rintro H' ⟨q1, q2⟩
      rw [List.length_map, List.take_length] at q1
      have ea : apart lit ds = lit.filter fun x => !decide (Conn (kept lit ds) m x) := by
        rw [← eL]
        rfl
      rw [← ea] at q1
      refine ⟨D, _, apart lit ds, rfl, rfl, SqL.of q1, ?_⟩
      have k' := k H' (g1.trans q2)
      have asc3 : (apart lit ds).Pairwise fun x y => ltS y x = false := by
        rw [ea]
        exact asc.sublist List.filter_sublist
      cases e : apart lit ds with
      | nil =>
        rw [e] at k'
        exact .inl ⟨rfl, k'⟩
      | cons y zs =>
        rw [e] at k' asc3
        exact .inr ⟨y, zs, rfl, (List.pairwise_cons.mp asc3).1, k'⟩
/-! ### lit_parts -/
def spLitP (K : PySem.W.Frag) (C : Addr) : Sp := fun vs H Q _ => ∃ (h d : Addr) (rs : List Str) (ds : List Ed) (fs : List Str) (nv : Str → V), vs = [.ref h, .ref d] ∧ HouseAt H C h rs ds ∧ rs.Nodup ∧ sortedS rs = true ∧ rs.length < 60 ∧ (∀ d ∈ ds, d.1 ∈ rs ∧ d.2 ∈ rs ∧ d.1 ≠ d.2) ∧ LedAt K H rs d fs nv ∧
  ∀ H' p us, H' p = some (.lst (us.map V.ref)) → LsAt H' us (partsL (litF rs nv) ds) → Gr H H' → H p = none → Q (.ref p) H'
abbrev NFps : List Str := ["house", "hours", "lit", "parts", "room", "part"]
abbrev NLp : List Str := ["house", "ledger"]
end
end Lamp
namespace Lamp
open PySem PySem.Spec PyProof.Rows L2
/-! ### simple ways -/
def Adj (es : List Ed) (x y : Str) : Prop := (x, y) ∈ es ∨ (y, x) ∈ es
/-- a way from a, no room twice -/
structure SP (es : List Ed) (a : Str) (L : List Str) : Prop where
  hd : L.head? = some a
  nd : L.Nodup
  adj : ∀ (i : Nat) (x y : Str), L[i]? = some x → L[i + 1]? = some y → Adj es x y
theorem SP.one (es : List Ed) (a : Str) : SP es a [a] := ⟨rfl, List.nodup_cons.mpr ⟨by simp, List.nodup_nil⟩, fun i x y h1 h2 => by
  cases i <;> cases h2⟩
theorem SP.ne {es : List Ed} {a : Str} {L : List Str} (h : SP es a L) : L ≠ [] := fun z => by
  have e := h.hd
  rw [z] at e
  cases e
theorem SP.snoc {es : List Ed} {a x z : Str} {L : List Str} (h : SP es a L) (l : L.getLast? = some x) (n : z ∉ L) (j : Adj es x z) : SP es a (L ++ [z]) := by
  refine ⟨?_, ?_, fun i p q h1 h2 => ?_⟩
  · rw [List.head?_append, h.hd]
    rfl
  · exact List.nodup_append.mpr ⟨h.nd, List.nodup_cons.mpr ⟨by simp, List.nodup_nil⟩, fun y hy w hw e => n (by rw [← List.mem_singleton.mp hw, ← e]; exact hy)⟩
  · have l2 := (List.getElem?_eq_some_iff.mp h2).1
    rw [List.length_append] at l2
    simp only [List.length_cons, List.length_nil] at l2
    rcases Nat.lt_or_ge (i + 1) L.length with lt | ge
    · rw [List.getElem?_append_left (by omega)] at h1
      rw [List.getElem?_append_left lt] at h2
      exact h.adj i p q h1 h2
    · have ei : i + 1 = L.length := by omega
      rw [List.getElem?_append_left (by omega)] at h1
      rw [List.getElem?_append_right ge, ei, Nat.sub_self] at h2
      obtain rfl : z = q := Option.some.inj h2
      rw [List.getLast?_eq_getElem?, show L.length - 1 = i by omega, h1] at l
      obtain rfl := Option.some.inj l
      exact j
theorem SP.pre {es : List Ed} {a : Str} {L M : List Str} (h : SP es a (L ++ M)) (n : L ≠ []) : SP es a L := by
  refine ⟨?_, (List.nodup_append.mp h.nd).1, fun i x y h1 h2 => ?_⟩
  · have e := h.hd
    cases L with
    | nil => exact absurd rfl n
    | cons x L => exact e
  · have l1 := (List.getElem?_eq_some_iff.mp h1).1
    have l2 := (List.getElem?_eq_some_iff.mp h2).1
    exact h.adj i x y (by rw [List.getElem?_append_left l1]; exact h1) (by rw [List.getElem?_append_left l2]; exact h2)
theorem SP.conn {es : List Ed} {a : Str} {L : List Str} (h : SP es a L) : ∀ (i : Nat) (x : Str), L[i]? = some x → Conn es a x := by
  intro i
  induction i with
  | zero =>
    intro x hx
    have e := h.hd
    rw [List.head?_eq_getElem?, hx] at e
    obtain rfl := Option.some.inj e
    exact .refl _
  | succ i ih =>
    intro x hx
    have l := (List.getElem?_eq_some_iff.mp hx).1
    have e : L[i]? = some L[i] := List.getElem?_eq_getElem (by omega)
    rcases h.adj i _ x e hx with q | q
    · exact .fwd (ih _ e) q
    · exact .bwd (ih _ e) q
theorem SP.last {es : List Ed} {a x : Str} {L : List Str} (h : SP es a L) (l : L.getLast? = some x) : Conn es a x := by
  rw [List.getLast?_eq_getElem?] at l
  exact h.conn _ _ l
/-- where doors lead, a simple way leads -/
theorem sp_of {es : List Ed} {a b : Str} (c : Conn es a b) : ∃ L, SP es a L ∧ L.getLast? = some b := by
  have step : ∀ {b c : Str}, (∃ L, SP es a L ∧ L.getLast? = some b) → Adj es b c → ∃ L, SP es a L ∧ L.getLast? = some c := fun {b c} ⟨L, h, l⟩ j => by
    by_cases m : c ∈ L
    · obtain ⟨L1, L2, e⟩ := List.append_of_mem m
      have e2 : L = (L1 ++ [c]) ++ L2 := by rw [e, List.append_assoc]; rfl
      rw [e2] at h
      exact ⟨L1 ++ [c], h.pre (by simp), by simp⟩
    · exact ⟨L ++ [c], h.snoc l m j, by simp⟩
  induction c with
  | refl => exact ⟨[a], SP.one es a, rfl⟩
  | fwd _ m ih => exact step ih (.inl m)
  | bwd _ m ih => exact step ih (.inr m)
/-- the rooms that may be met -/
def allOf (a : Str) (es : List Ed) : List Str := a :: es.flatMap fun e => [e.1, e.2]
theorem allOf_len (a : Str) : ∀ es : List Ed, (allOf a es).length = 1 + 2 * es.length
  | [] => rfl
  | e :: es => by
    have ih := allOf_len a es
    unfold allOf at ih ⊢
    rw [List.length_cons] at ih
    rw [List.flatMap_cons, List.length_cons, List.length_append, List.length_cons]
    show 2 + (es.flatMap fun e => [e.1, e.2]).length + 1 = 1 + 2 * (es.length + 1)
    omega
theorem SP.sub {es : List Ed} {a : Str} {L : List Str} (h : SP es a L) : ∀ x ∈ L, x ∈ allOf a es := by
  intro x hx
  obtain ⟨i, hi, e⟩ := List.getElem_of_mem hx
  have e1 : L[i]? = some x := by rw [List.getElem?_eq_getElem hi, e]
  cases i with
  | zero =>
    have q := h.hd
    rw [List.head?_eq_getElem?, e1] at q
    rw [Option.some.inj q]
    exact List.mem_cons_self
  | succ i =>
    have e0 : L[i]? = some L[i] := List.getElem?_eq_getElem (by omega)
    refine List.mem_cons_of_mem _ (List.mem_flatMap.mpr ?_)
    rcases h.adj i _ x e0 e1 with q | q
    · exact ⟨_, q, by simp⟩
    · exact ⟨_, q, by simp⟩
theorem SP.len {es : List Ed} {a : Str} {L : List Str} (h : SP es a L) : L.length ≤ 1 + 2 * es.length := by
  rw [← allOf_len a es]
  exact nodup_le h.nd h.sub
/-- what is left to be gone through -/
def wsum : List (List Str) → Nat
  | [] => 0
  | L :: Ls => 64 ^ (62 - L.length) + wsum Ls
theorem wsum_app : ∀ Ls Ms : List (List Str), wsum (Ls ++ Ms) = wsum Ls + wsum Ms
  | [], Ms => by rw [List.nil_append]; show wsum Ms = 0 + wsum Ms; omega
  | L :: Ls, Ms => by
    have ih := wsum_app Ls Ms
    show 64 ^ (62 - L.length) + wsum (Ls ++ Ms) = 64 ^ (62 - L.length) + wsum Ls + wsum Ms
    omega
theorem wsum_ext {L : List Str} : ∀ zs : List Str, wsum (zs.map fun z => L ++ [z]) = zs.length * 64 ^ (61 - L.length)
  | [] => by show 0 = 0 * _; omega
  | z :: zs => by
    have ih := wsum_ext (L := L) zs
    have e : 62 - (L ++ [z]).length = 61 - L.length := by rw [List.length_append]; show 62 - (L.length + 1) = _; omega
    show 64 ^ (62 - (L ++ [z]).length) + wsum (zs.map fun z => L ++ [z]) = (zs.length + 1) * 64 ^ (61 - L.length)
    rw [ih, e, Nat.succ_mul]
    omega
theorem wsum_less {L zs : List Str} {Ls : List (List Str)} (h1 : zs.length < 64) (h2 : L.length ≤ 61) : wsum (Ls ++ zs.map fun z => L ++ [z]) < wsum (Ls ++ [L]) := by
  rw [wsum_app, wsum_app, wsum_ext]
  have e : wsum [L] = 64 * 64 ^ (61 - L.length) := by
    show 64 ^ (62 - L.length) + 0 = _
    rw [show 62 - L.length = (61 - L.length) + 1 by omega, Nat.pow_succ]
    omega
  rw [e]
  have p : 0 < 64 ^ (61 - L.length) := Nat.pow_pos (by decide)
  have := (Nat.mul_lt_mul_right p).mpr h1
  omega
end Lamp
set_option maxHeartbeats 8000000
namespace Lamp
open PySem PySem.Spec PyProof.Rows L2
/-! ### _law_h_way -/
theorem dpAll_ls {K : PySem.W.Frag} {H : Hp} : ∀ {us : List Addr} {Ls : List (List Str)}, LsAt H us Ls → DpAll K H (us.map V.ref) (Ls.map fun L => PyData.list (L.map PyData.str))
  | [], [], _ => .nil
  | [], _ :: _, h => by cases h
  | _ :: _, [], h => by cases h
  | u :: us, L :: Ls, h => by
    cases h with
    | cons h1 h2 => exact .cons (.lst (SqL.of h1) (dpAll_strs L)) (dpAll_ls h2)
theorem depth_strs0 : ∀ xs : List Str, PyData.depthAll (xs.map PyData.str) = 0
  | [] => rfl
  | x :: xs => by
    show max 0 (PyData.depthAll (xs.map PyData.str)) = 0
    rw [depth_strs0 xs]
    rfl
theorem lay_ls : ∀ {Ls : List (List Str)}, (∀ L ∈ Ls, ∀ x ∈ L, PyData.strOk x = true) → PyData.canLayAll0 (Ls.map fun L => PyData.list (L.map PyData.str)) = true ∧ PyData.depthAll (Ls.map fun L => PyData.list (L.map PyData.str)) ≤ 1
  | [], _ => ⟨rfl, Nat.zero_le _⟩
  | L :: Ls, h => by
    obtain ⟨h1, h2⟩ := lay_ls (Ls := Ls) fun M hM => h M (List.mem_cons_of_mem _ hM)
    refine ⟨?_, ?_⟩
    · show (PyData.canLayAll0 (L.map PyData.str) && _) = true
      rw [lay_strs (h L List.mem_cons_self), h1]
      rfl
    · show max (PyData.depthAll (L.map PyData.str) + 1) _ ≤ 1
      rw [depth_strs0]
      omega
theorem shaped_ls {Ls : List (List Str)} (h : ∀ L ∈ Ls, ∀ x ∈ L, PyData.strOk x = true) : SeqAt.shaped (.list (Ls.map fun L => PyData.list (L.map PyData.str))) = true := by
  obtain ⟨h1, h2⟩ := lay_ls h
  have d : PyData.depth (.list (Ls.map fun L => PyData.list (L.map PyData.str))) ≤ 64 := by
    show PyData.depthAll _ + 1 ≤ 64
    omega
  show (PyData.canLayAll0 _ && decide _) = true
  rw [h1, decide_eq_true d]
  rfl
theorem paired_app {α β : Type} {R : α → β → Prop} : ∀ {xs xs' : List α} {ys ys' : List β}, Paired R xs ys → Paired R xs' ys' → Paired R (xs ++ xs') (ys ++ ys')
  | [], _, [], _, .nil, h => h
  | _ :: _, _, _ :: _, _, .cons a r, h => .cons a (paired_app r h)
section
variable {P : Program} {w : World} {K : PySem.W.Frag} {mg : Str → Option Value} {base : Heap}
def spHWay : Sp := fun vs H Q _ => ∃ (q : Addr) (one other : Str) (ts : List Addr) (es : List Ed), vs = [.ref q, .str one, .str other] ∧ H q = some (.lst (ts.map V.ref)) ∧ TupsAt H ts es ∧ es.length < 30 ∧ (∀ x ∈ allOf one es, PyData.strOk x = true) ∧
  ∀ H' p L, ((¬ Conn es one other ∧ L = []) ∨ (SP es one L ∧ L.getLast? = some other)) → H' p = some (.lst (L.map V.str)) → Gr H H' → H p = none → Q (.ref p) H'
abbrev NHw : List Str := ["doors", "one", "other", "rows", "row", "further", "room"]
theorem scHw : FnScope NHw ["doors", "one", "other"] (defScope s_law_h_way) := ⟨rfl, rfl, rfl, by decide +kernel, rfl, by decide +kernel, by decide +kernel⟩
theorem ok_hway {f : Addr} {fd : FuncData} (F : Fun K "_law_h_way" "_law_h_way" s_law_h_way f fd) (BO : Stands P w K mg base 1 "_law_h_beside" ["doors", "room"] spBesideM) : FnOk P w K mg base CX0 2 f fd ["doors", "one", "other"] spHWay := by
  obtain ⟨fB, dB, GB, mB, kB, bB⟩ := BO
  refine F.ok scHw (fun vs H Q E h => ?_) (fun cdv A outer s H vs Q E hr h => ?_)
  · obtain ⟨q, one, other, ts, es, rfl, _⟩ := h
    rfl
  · obtain ⟨q, one, other, ts, es, rfl, hq, ht, el, sok, k⟩ := h
    refine ⟨_, pss_cons (ps_set (i := 3) scHw.nd rfl (Or.inl rfl) (pe_lst (pa_cons (pe_lst (pa_cons (pv 1) pa_nil)) pa_nil)))
      (pss_cons (ps_while PassesOwn.never (pt_cmpR (op_neD hr.units) (pv 3) (pe_lst pa_nil) (nomark _))
        (pss_cons (ps_set (i := 4) scHw.nd rfl (Or.inr rfl) (pe_bm0 PySem.F.plainAttrs_list PySem.F.slot_list_pop PySem.F.type_list_pop mt_pop (pv 3)))
        (pss_cons (ps_if (pt_cmpR op_eq (pe_ix ix_list (pv 4) (pe_un un_neg pe_int) (fun _ _ => rfl)) (pv 2) (nomark _)) (pss_one (ps_ret (pv 4))) pss_nil)
        (pss_cons (ps_setLc (i := 5) (te := tVar 6) (own := [("room", 6)]) (g := gName 6) (tt := tTest (tOp (rIn K true) (tVar 6) (tVar 4))) rfl scHw.nd rfl rfl (sw_true rfl rfl (by rfl) (by rfl)) (pi_list (pe_call GB hr (by rfl) mB kB bB .nil pass0 (pa_cons (pv 0) (pa_cons (pe_ix ix_list (pv 4) (pe_un un_neg pe_int) (fun _ _ => rfl)) pa_nil)))) (blkOk_by (N := NHw) (sc := defScope s_law_h_way) (by decide +kernel))
            (fun _ _ _ _ _ => pg_name (i := 6) scHw.nd rfl (Or.inl rfl)) (fun _ _ _ _ _ => by exact (pts_one (pt_cmpR op_notIn_seq (pv 6) (pv 4) (by rfl)))) (fun _ _ _ _ _ => pv 6))
        (pss_one (ps_expr (pe_bm PySem.F.plainAttrs_list PySem.F.slot_list_extend PySem.F.type_list_extend mt_extend (pv 3) (pa_cons
          (pe_lc (te := tOp rCat (tVar 4) (tLst (tCons (tVar 6) tNil))) (own := [("room", 6)]) (g := gName 6) (tt := tYes) rfl scHw.nd (pi_list (pv 5)) (blkOk_by (N := NHw) (sc := defScope s_law_h_way) (by decide +kernel))
            (fun _ _ _ _ _ => pg_name (i := 6) scHw.nd rfl (Or.inl rfl)) (fun _ _ _ _ _ => pts_nil) (fun _ _ _ _ _ => by exact (pe_op op_cat (pv 4) (pe_lst (pa_cons (pv 6) pa_nil))))) pa_nil) (by rfl) (by rfl))))))))
      (pss_one (ps_ret (pe_lst pa_nil)))), ?_⟩
    have bound : ∀ {L : List Str}, SP es one L → L.length ≤ 61 := fun h => by
      have := h.len
      omega
    refine ⟨_, rfl, (by show 1 ≤ sizeLine; decide), fun R0 nR0 => ?_⟩
    have a1 : Gr H (upd H R0 (.lst [.str one])) := Gr.upd nR0
    have e1 : upd H R0 (.lst [.str one]) R0 = some (.lst [.str one]) := upd_same
    generalize upd H R0 (.lst [.str one]) = H1 at a1 e1
    refine ⟨(by show 1 ≤ sizeLine; decide), fun D nD => ?_⟩
    have a2 : Gr H1 (upd H1 D (.lst [.ref R0])) := Gr.upd nD
    have e2 : upd H1 D (.lst [.ref R0]) D = some (.lst [.ref R0]) := upd_same
    have nDH : H D = none := a1.n _ nD
    have e3 := a2.s _ _ e1
    generalize upd H1 D (.lst [.ref R0]) = H2 at a2 e2 e3
    have a12 := a1.trans a2
    refine while_ex (fun σ' H' => ¬ Conn es one other ∧ Gr H H') ?_ (fun fin => ?_)
    · rintro σ' H' ⟨nc, g⟩
      refine ⟨(by show 0 ≤ sizeLine; exact Nat.zero_le _), fun p np => ?_⟩
      exact k _ p [] (.inl ⟨nc, rfl⟩) upd_same (g.trans (Gr.upd np)) (g.n _ np)
    let W : Nat → L2.St → Hp → Prop := fun m' σ' H' => ∃ (us : List Addr) (Ls : List (List Str)) (v4 v5 v6 : Option V), σ' = [some (.ref q), some (.str one), some (.str other), some (.ref D), v4, v5, v6] ∧ m' = wsum Ls ∧ H' D = some (.lst (us.map V.ref)) ∧ LsAt H' us Ls ∧ Gr H H' ∧ (∀ w ∈ us, H w = none) ∧ (∀ L ∈ Ls, SP es one L) ∧
      (∀ (i : Nat) (L : List Str), Ls[i]? = some L → i < 64 * L.length) ∧ (Conn es one other → ∃ L ∈ Ls, ∃ more, SP es one (L ++ more) ∧ (L ++ more).getLast? = some other)
    have hW0 : W (wsum [[one]]) ((List.set (L2.start NHw [V.ref q, V.str one, V.str other]) 3 (some (V.ref D)))) H2 := by
      refine ⟨[R0], [[one]], none, none, none, rfl, rfl, e2, .cons e3 .nil, a12, fun w hw => by rw [List.mem_singleton.mp hw]; exact nR0, fun L hL => by rw [List.mem_singleton.mp hL]; exact SP.one es one, fun i L hi => ?_, fun c => ?_⟩
      · cases i with
        | zero =>
          obtain rfl := Option.some.inj hi
          show 0 < 64 * 1
          decide
        | succ i => cases hi
      · obtain ⟨L, h, l⟩ := sp_of c
        refine ⟨[one], List.mem_singleton.mpr rfl, L.tail, ?_⟩
        have e : [one] ++ L.tail = L := by
          have z := h.hd
          cases L with
          | nil => cases z
          | cons x L =>
            obtain rfl := Option.some.inj z
            rfl
        rw [e]
        exact ⟨h, l⟩
    refine ⟨W, ⟨_, hW0⟩, ?_⟩
    rintro m' σ' H' ⟨us, Ls, v4, v5, v6, rfl, rfl, d1, d2, d3, fr, sps, ixs, wit⟩
    have len := paired_len d2
    have nul : us.length < 64 * 61 + 1 := by
      by_cases z : us.length = 0
      · omega
      · have lt : us.length - 1 < Ls.length := by omega
        have e : Ls[us.length - 1]? = some Ls[us.length - 1] := List.getElem?_eq_getElem lt
        have b1 := ixs _ _ e
        have b2 := bound (sps _ (List.getElem_mem lt))
        omega
    have sokL : ∀ L ∈ Ls, ∀ x ∈ L, PyData.strOk x = true := fun L hL x hx => sok x ((sps L hL).sub x hx)
    refine ⟨_, rfl, (by show 0 ≤ sizeLine; exact Nat.zero_le _), fun z nz => ?_⟩
    have gz : Gr H' (upd H' z (.lst [])) := Gr.upd nz
    have ez : upd H' z (.lst []) z = some (.lst []) := upd_same
    generalize upd H' z (.lst []) = H3 at gz ez
    have d1' := gz.s _ _ d1
    have d2' := d2.up gz.s
    have d3' := d3.trans gz
    refine ⟨.list (Ls.map fun L => PyData.list (L.map PyData.str)), .list [], .lst (SqL.of d1') (dpAll_ls d2'), .lst (SqL.of ez) .nil, shaped_ls sokL, by decide, _, rfl, ?_⟩
    rcases List.eq_nil_or_concat Ls with rfl | ⟨Ls0, L, rfl⟩
    · refine iteF2 rfl (fin _ _ ⟨fun c => ?_, d3'⟩)
      obtain ⟨L, hL, _⟩ := wit c
      cases hL
    rw [List.concat_eq_append] at d2 d2' sps ixs wit len sokL
    refine iteT2 (by
      rw [List.concat_eq_append]
      cases Ls0 <;> rfl) ?_
    rw [List.concat_eq_append]
    obtain ⟨us0, u, rfl, du0, du⟩ := paired_unsnoc d2'
    have spL := sps L (List.mem_append_right _ (List.mem_singleton.mpr rfl))
    have b1 := bound spL
    obtain ⟨x, lx⟩ : ∃ x, L.getLast? = some x := by
      cases e : L.getLast? with
      | none => exact absurd (List.getLast?_eq_none_iff.mp e) spL.ne
      | some x => exact ⟨x, rfl⟩
    have ixL : atI (L.map V.str) (-1) = some (V.str x) := by
      obtain ⟨L1, e⟩ : ∃ L1, L = L1 ++ [x] := by
        rw [List.getLast?_eq_some_iff] at lx
        obtain ⟨L1, e⟩ := lx
        exact ⟨L1, e⟩
      rw [e, List.map_append]
      exact atI_last _ _
    have ew : ((us0 ++ [u]).map V.ref).dropLast = us0.map V.ref := by
      rw [List.map_append]
      exact List.dropLast_concat
    have lw : ((us0 ++ [u]).map V.ref)[((us0 ++ [u]).map V.ref).length - 1]? = some (.ref u) := by
      simp
    have uD : u ≠ D := fun z => by
      have ne := LsAt.ne d2' d1' (fun w hw => hw) u (List.mem_append_right _ (List.mem_singleton.mpr rfl))
      exact ne z
    have ne0 : ∀ w ∈ us0, w ≠ D := fun w hw => LsAt.ne d2' d1' (fun w hw => hw) w (List.mem_append_left _ hw)
    refine ⟨fun σ'' H'' => ∃ m'', m'' < wsum (Ls0 ++ [L]) ∧ W m'' σ'' H'', fun _ _ h => h, ?_⟩
    refine ⟨_, rfl, .inl ⟨rfl, _, SqL.of d1'⟩, D, _, .ref u, rfl, rfl, d1', lw, ?_⟩
    rw [ew]
    have f1 : upd H3 D (.lst (us0.map V.ref)) D = some (.lst (us0.map V.ref)) := upd_same
    have f2 : LsAt (upd H3 D (.lst (us0.map V.ref))) us0 Ls0 := LsAt.put du0 (fun _ _ e => e) ne0
    have f3 : upd H3 D (.lst (us0.map V.ref)) u = some (.lst (L.map V.str)) := by
      rw [upd_ne uD]
      exact du
    have f4 : Gr H (upd H3 D (.lst (us0.map V.ref))) := d3'.put nDH
    generalize upd H3 D (.lst (us0.map V.ref)) = H4 at f1 f2 f3 f4
    refine ⟨_, rfl, _, rfl, u, _, -1, .str x, rfl, rfl, SqL.of f3, ixL, _, rfl, rfl, _, rfl, ?_⟩
    by_cases c : x = other
    · subst c
      refine iteT2 (by simp) ⟨_, rfl, ?_⟩
      exact k _ u L (.inr ⟨spL, lx⟩) f3 f4 (fr u (List.mem_append_right _ (List.mem_singleton.mpr rfl)))
    refine iteF2 (by simp [c]) ?_
    refine ⟨_, rfl, _, rfl, _, rfl, u, _, -1, .str x, rfl, rfl, SqL.of f3, ixL, q, x, ts, es, rfl, f4.s _ _ hq, Paired.imp (fun _ _ e => f4.s _ _ e) ht, el, fun H5 p ys mem yl g5 np ep => ?_⟩
    refine ⟨p, rfl, ⟨_, SqL.of ep⟩, fun Z nZ => ?_⟩
    have f15 := g5.s _ _ f1
    have f35 := g5.s _ _ f3
    refine lc_it (walk_list (xs := ys.map V.str)) (fun j H' => H' Z = some (.lst (((ys.take j).filter fun z => !decide (z ∈ L)).map V.str)) ∧ Gr H5 H') ⟨by rw [List.take_zero]; exact upd_same, Gr.upd nZ⟩ (fun j H' _ g => SqL.of (g.2.s _ _ ep)) ?_ ?_
    · rintro j v H' H'' hj ⟨q1, q2⟩ ⟨rfl, hv⟩
      have hj2 : j < ys.length := by simpa using hj
      have ej : ys[j]? = some ys[j] := List.getElem?_eq_getElem hj2
      obtain rfl : V.str ys[j] = v := by
        rw [List.getElem?_map, ej] at hv
        exact Option.some.inj hv
      have tk : ys.take (j + 1) = ys.take j ++ [ys[j]] := (List.take_append_getElem hj2).symm
      generalize ys[j] = r at tk ej
      refine ⟨rfl, _, rfl, _, rfl, u, _, rfl, .inl (SqL.of (q2.s _ _ f35)), rfl, flat_strs _, _, rfl, ?_⟩
      rw [inv_strs, if_pos rfl, tk, List.filter_append, List.map_append]
      by_cases m : r ∈ L
      · refine iteF2 (by rw [decide_eq_true m]; rfl) ⟨?_, q2⟩
        rw [show [r].filter (fun z => !decide (z ∈ L)) = [] by simp [m], List.map_nil, List.append_nil]
        exact q1
      · refine iteT2 (by rw [decide_eq_false m]; rfl) ⟨_, rfl, _, q1, ?_, ?_, q2.put nZ⟩
        · rw [List.length_map]
          refine Nat.lt_of_le_of_lt (List.length_filter_le _ _) ?_
          rw [List.length_take]
          exact Nat.lt_of_le_of_lt (Nat.min_le_right _ _) (Nat.lt_trans yl (by decide))
        · rw [upd_same, show [r].filter (fun z => !decide (z ∈ L)) = [r] by simp [m]]
          rfl
    rintro H6 ⟨q1, q2⟩
    rw [List.length_map, List.take_length] at q1
    generalize ezs : (ys.filter fun z => !decide (z ∈ L)) = zs at q1
    have zl : zs.length < 64 := by
      rw [← ezs]
      exact Nat.lt_of_le_of_lt (List.length_filter_le _ _) yl
    have zm : ∀ z, z ∈ zs ↔ Adj es x z ∧ z ∉ L := fun z => by
      rw [← ezs, List.mem_filter, mem z]
      simp [Adj]
    have g56 := g5.trans q2
    have f16 := q2.s _ _ f15
    have f36 := q2.s _ _ f35
    refine ⟨_, rfl, .inl ⟨rfl, _, SqL.of f16⟩, _, rfl, Z, rfl, ⟨_, SqL.of q1⟩, fun B nB => ?_⟩
    have ZB : Z ≠ B := ne_of_none q1 nB
    refine lc_it (walk_list (xs := zs.map V.str)) (fun j H' => ∃ ws : List Addr, H' B = some (.lst (ws.map V.ref)) ∧ LsAt H' ws ((zs.take j).map fun z => L ++ [z]) ∧ Gr H6 H' ∧ ∀ w ∈ ws, H6 w = none) ⟨[], upd_same, .nil, Gr.upd nB, fun w hw => by cases hw⟩ (fun j H' _ g => by
      obtain ⟨_, _, _, g3, _⟩ := g
      exact SqL.of (g3.s _ _ q1)) ?_ ?_
    · rintro j v H' H'' hj ⟨ws, w1, w2, w3, w4⟩ ⟨rfl, hv⟩
      have hj2 : j < zs.length := by simpa using hj
      have ej : zs[j]? = some zs[j] := List.getElem?_eq_getElem hj2
      obtain rfl : V.str zs[j] = v := by
        rw [List.getElem?_map, ej] at hv
        exact Option.some.inj hv
      have tk : zs.take (j + 1) = zs.take j ++ [zs[j]] := (List.take_append_getElem hj2).symm
      generalize zs[j] = r at tk ej
      have lws : ws.length ≤ zs.length := by
        have z := paired_len w2
        rw [List.length_map, List.length_take] at z
        rw [z]
        exact Nat.min_le_right _ _
      refine ⟨rfl, _, rfl, _, rfl, (by show 1 ≤ sizeLine; decide), fun t nt => ?_⟩
      have gt : Gr H'' (upd H'' t (.lst [.str r])) := Gr.upd nt
      have et : upd H'' t (.lst [.str r]) t = some (.lst [.str r]) := upd_same
      generalize upd H'' t (.lst [.str r]) = G1 at gt et
      refine ⟨u, t, _, _, rfl, rfl, gt.s _ _ (w3.s _ _ f36), et, ?_, fun n nn => ?_⟩
      · rw [List.length_map]
        exact Nat.le_trans (show L.length + 1 ≤ 62 by omega) (by decide)
      · have gn : Gr G1 (upd G1 n (.lst (L.map V.str ++ [.str r]))) := Gr.upd nn
        have g13 := gt.trans gn
        refine ⟨_, g13.s _ _ w1, ?_, ws ++ [n], ?_, ?_, (w3.trans g13).put nB, fun w hw => ?_⟩
        · rw [List.length_map]
          exact Nat.lt_of_le_of_lt lws (Nat.lt_trans zl (by decide))
        · rw [upd_same, List.map_append]
          rfl
        · rw [tk, List.map_append]
          have nBn : n ≠ B := fun z => by rw [z, gt.s _ _ w1] at nn; cases nn
          refine paired_snoc ?_ (LsAt.put w2 g13.s (w2.ne w1 fun w hw => hw))
          rw [upd_ne nBn, upd_same, List.map_append]
          rfl
        · rcases List.mem_append.mp hw with hw | hw
          · exact w4 w hw
          · rw [List.mem_singleton.mp hw]
            exact w3.n _ (gt.n _ nn)
    rintro H7 ⟨ws, w1, w2, w3, w4⟩
    rw [List.length_map, List.take_length] at w2
    have g67 := g56.trans w3
    have lw2 : ws.length = zs.length := by
      have z := paired_len w2
      rwa [List.length_map] at z
    refine ⟨D, B, _, _, rfl, rfl, w3.s _ _ f16, w1, ?_, ?_⟩
    · rw [List.length_map, List.length_map]
      have : us0.length + ws.length ≤ 64 * 61 + 1 + 64 := by
        rw [List.length_append] at nul
        simp only [List.length_cons, List.length_nil] at nul
        omega
      exact Nat.le_trans this (by decide)
    have wD : ∀ w ∈ ws, w ≠ D := fun w hw => fun z => by
      have e := w4 w hw
      rw [z, f16] at e
      cases e
    refine ⟨_, wsum_less (zs := zs) (Ls := Ls0) zl b1, us0 ++ ws, Ls0 ++ zs.map fun z => L ++ [z], _, _, _, rfl, rfl, by rw [upd_same, List.map_append], ?_, (f4.trans g67).put nDH, fun w hw => ?_, fun M hM => ?_, fun i M hi => ?_, fun c => ?_⟩
    · refine LsAt.put (H := H7) (paired_app (f2.up g67.s) w2) (fun _ _ e => e) fun w hw => ?_
      rcases List.mem_append.mp hw with hw | hw
      · exact ne0 w hw
      · exact wD w hw
    · rcases List.mem_append.mp hw with hw | hw
      · exact fr w (List.mem_append_left _ hw)
      · exact f4.n _ (g56.n _ (w4 w hw))
    · rcases List.mem_append.mp hM with hM | hM
      · exact sps M (List.mem_append_left _ hM)
      · obtain ⟨z, hz, rfl⟩ := List.mem_map.mp hM
        obtain ⟨z1, z2⟩ := (zm z).mp hz
        exact spL.snoc lx z2 z1
    · rcases Nat.lt_or_ge i Ls0.length with lt | ge
      · rw [List.getElem?_append_left lt] at hi
        exact ixs i M (by rw [List.getElem?_append_left lt]; exact hi)
      · rw [List.getElem?_append_right ge, List.getElem?_map] at hi
        obtain ⟨z, hz, rfl⟩ := Option.map_eq_some_iff.mp hi
        have l1 := (List.getElem?_eq_some_iff.mp hz).1
        have l2 := ixs Ls0.length L (by rw [List.getElem?_append_right (Nat.le_refl _), Nat.sub_self]; rfl)
        rw [List.length_append]
        show i < 64 * (L.length + 1)
        omega
    · obtain ⟨M, hM, more, h1, h2⟩ := wit c
      rcases List.mem_append.mp hM with hM | hM
      · exact ⟨M, List.mem_append_left _ hM, more, h1, h2⟩
      · obtain rfl := List.mem_singleton.mp hM
        cases more with
        | nil =>
          rw [List.append_nil] at h2
          rw [h2] at lx
          exact absurd (Option.some.inj lx).symm ‹¬x = other›
        | cons z more =>
          have ez : M ++ z :: more = (M ++ [z]) ++ more := by rw [List.append_assoc]; rfl
          have adj : Adj es x z := by
            have l := lx
            rw [List.getLast?_eq_getElem?] at l
            have lt := (List.getElem?_eq_some_iff.mp l).1
            refine h1.adj (M.length - 1) x z (by rw [List.getElem?_append_left lt]; exact l) ?_
            rw [show M.length - 1 + 1 = M.length by omega, List.getElem?_append_right (Nat.le_refl _), Nat.sub_self]
            rfl
          have nz : z ∉ M := fun m => (List.nodup_append.mp h1.nd).2.2 z m z List.mem_cons_self rfl
          exact ⟨M ++ [z], List.mem_append_right _ (List.mem_map.mpr ⟨z, (zm z).mpr ⟨adj, nz⟩, rfl⟩), more, by rw [← ez]; exact h1, by rw [← ez]; exact h2⟩
end
end Lamp
set_option maxHeartbeats 8000000
namespace Lamp
open PySem PySem.Spec PyProof.Rows L2
/-! ### sorted of lists of texts, in the order of their first ones -/
def encL (b : Addr × List Str) : PyData := .list (b.2.map PyData.str)
theorem alike_strs : ∀ xs ys : List Str, PySem.W.alikeAll (xs.map PyData.str) (ys.map PyData.str) = true
  | [], _ => by simp [PySem.W.alikeAll]
  | _ :: _, [] => by simp [PySem.W.alikeAll]
  | x :: xs, y :: ys => by
    have ih := alike_strs xs ys
    simp [PySem.W.alikeAll, PySem.W.alike, ih]
theorem alike_encL (b c : Addr × List Str) : PySem.W.alike (encL b) (encL c) = true := by
  have z := alike_strs b.2 c.2
  simp [encL, PySem.W.alike, z]
theorem dataLt_heads {x y : Str} {xs ys : List Str} (ne : x ≠ y) : PySem.W.dataLt (.list ((x :: xs).map PyData.str)) (.list ((y :: ys).map PyData.str)) = ltS x y := by
  rw [PySem.W.dataLt_list, List.map_cons, List.map_cons, PySem.W.dataLt_cons (by simp [PySem.W.alike])]
  have e : PyData.eqv (.str x) (.str y) = false := by
    simp [PyData.eqv, ne]
  rw [e, if_neg Bool.false_ne_true, PySem.W.dataLt_str]
  rfl
theorem dataLe_heads {b c : Addr × List Str} (h : PySem.W.dataLe false encL b c = true) {x y : Str} (hx : b.2.head? = some x) (hy : c.2.head? = some y) : ltS y x = false := by
  have h2 : (!PySem.W.dataLt (encL c) (encL b)) = true := h
  rw [Bool.not_eq_true'] at h2
  by_cases e : y = x
  · rw [e]
    exact ltS_irr _
  · obtain ⟨xs, ex⟩ : ∃ xs, b.2 = x :: xs := by
      cases q : b.2 with
      | nil => rw [q] at hx; cases hx
      | cons a l =>
        rw [q] at hx
        obtain rfl := Option.some.inj hx
        exact ⟨l, rfl⟩
    obtain ⟨ys, ey⟩ : ∃ ys, c.2 = y :: ys := by
      cases q : c.2 with
      | nil => rw [q] at hy; cases hy
      | cons a l =>
        rw [q] at hy
        obtain rfl := Option.some.inj hy
        exact ⟨l, rfl⟩
    unfold encL at h2
    rw [ex, ey, dataLt_heads e] at h2
    exact h2
def rSortLL (K : PySem.W.Frag) : List V → Hp → VK → Prop := fun vs H Q => ∃ (a : Addr) (bs : List (Addr × List Str)), vs = [.ref a] ∧ SqL K H a (bs.map fun b => V.ref b.1) ∧ (∀ b ∈ bs, H b.1 = some (.lst (b.2.map V.str))) ∧ bs.length < 1000 ∧
  ∀ (cs : List (Addr × List Str)) p, cs.Perm bs → cs.Pairwise (fun b c => ∀ x y, b.2.head? = some x → c.2.head? = some y → ltS y x = false) → H p = none → Q (.ref p) (upd H p (.lst (cs.map fun b => V.ref b.1)))
theorem depth_encL (b : Addr × List Str) : (encL b).depth = 1 := by
  show PyData.depthAll (b.2.map PyData.str) + 1 = 1
  rw [depth_strs0]
theorem cr_sortLL {X : Cx} (hu : X.A.units + 64 < cLine) : CallR X (.builtin "sorted") (rSortLL X.K) := by
  intro pins s σ H vs us Q I r h
  obtain ⟨a, bs, rfl, hs, hb, hz, q⟩ := h
  obtain ⟨its, rv, hl, hlen⟩ := I.list hs
  rw [Vals.ref1 r]
  have each : ∀ {bs : List (Addr × List Str)} {its : List Value}, Vals (bs.map fun b => V.ref b.1) its → (∀ b ∈ bs, H b.1 = some (.lst (b.2.map V.str))) → PySem.W.EachIs (fun v (b : Addr × List Str) => v = Value.ref b.1) its bs ∧ PySem.W.EachIs (fun v (b : Addr × List Str) => ∃ as, Reads s.heap v (encL b) as) its bs := fun {bs} => by
    induction bs with
    | nil =>
      intro its rv _
      cases rv
      exact ⟨.nil, .nil⟩
    | cons b bs ih =>
      intro its rv hb
      cases rv with
      | cons r1 r2 =>
        obtain ⟨h1, h2⟩ := ih r2 fun c hc => hb c (List.mem_cons_of_mem _ hc)
        cases r1
        refine ⟨.cons rfl h1, .cons ?_ h2⟩
        exact Dp.reads I (encL b) (.ref b.1) _ (.lst (SqL.of (hb b List.mem_cons_self)) (dpAll_strs _)) rfl
  obtain ⟨e1, e2⟩ := each rv hb
  refine PySem.W.sorted_data (enc := encL) hl.isList e1 e2 (PySem.W.AllAlike.of alike_encL) (PySem.W.Sortable.others fun b => ⟨fun z => (by cases z), fun xs z => (by cases z)⟩) (Nat.le_trans (Nat.le_of_lt hz) (by decide)) (fun b _ => ?_) fun out ho eo => ?_
  · rw [depth_encL]
    show X.A.units + 2 + 1 < cLine
    omega
  · generalize ecs : bs.mergeSort (PySem.W.dataLe false encL) = cs at eo
    have pm : cs.Perm bs := by rw [← ecs]; exact List.mergeSort_perm _ _
    have pw : cs.Pairwise fun b c => PySem.W.dataLe false encL b c = true := by
      rw [← ecs]
      exact PySem.W.sort_pairwise (PySem.W.sortLe_total _ _ _) bs
    have eout : out = cs.map fun b => Value.ref b.1 := by
      clear ho
      clear pw pm ecs q
      induction eo with
      | nil => rfl
      | cons h _ ih =>
        rw [List.map_cons, ← ih, h]
    obtain ⟨n, on⟩ := sortedAll_at s.heap its out.toArray
    have few : (cs.map fun b => V.ref b.1).length ≤ sizeLine := by
      rw [List.length_map, pm.length_eq]
      exact Nat.le_trans (Nat.le_of_lt hz) (by decide)
    have vals : Vals (cs.map fun b => V.ref b.1) out := by
      rw [eout]
      clear eout few on eo pw pm ecs q
      induction cs with
      | nil => exact .nil
      | cons b cs ih => exact .cons rfl ih
    refine ⟨.ref _, upd H (s.heap.objs.size + 1) (.lst (cs.map fun b => V.ref b.1)), I.laid (t' := s.toks) (fun _ _ => sortedAll_old) (Nat.le_succ _) ⟨few, out, n, vals, by simpa using on⟩, rfl, q cs _ pm (pw.imp fun {b c} h x y hx hy => dataLe_heads h hx hy) (I.hok.fresh (Nat.le_succ _))⟩
end Lamp
set_option maxHeartbeats 8000000
namespace Lamp
open PySem PySem.Spec PyProof.Rows L2
/-! ### _law_each_once -/
def BsAt (H : Hp) (bs : List (Addr × List Str)) : Prop := ∀ b ∈ bs, H b.1 = some (.lst (b.2.map V.str))
theorem BsAt.up {H H' : Hp} {bs : List (Addr × List Str)} (h : BsAt H bs) (s : Same H H') : BsAt H' bs := fun b hb => s _ _ (h b hb)
abbrev refs (bs : List (Addr × List Str)) : List V := bs.map fun b => V.ref b.1
theorem eqv_strs : ∀ xs ys : List Str, PyData.eqvAll (xs.map PyData.str) (ys.map PyData.str) = decide (xs = ys)
  | [], [] => by simp [PyData.eqvAll]
  | [], y :: ys => by simp [PyData.eqvAll]
  | x :: xs, [] => by simp [PyData.eqvAll]
  | x :: xs, y :: ys => by
    have ih := eqv_strs xs ys
    rw [Bool.eq_iff_iff] at ih ⊢
    simp [PyData.eqvAll, PyData.eqv] at ih ⊢
    exact fun _ => ih
theorem eqv_lists (xs ys : List Str) : PyData.eqv (.list (xs.map PyData.str)) (.list (ys.map PyData.str)) = decide (xs = ys) := by
  rw [← eqv_strs]
  simp [PyData.eqv]
theorem dpAll_bs {K : PySem.W.Frag} {H : Hp} : ∀ {bs : List (Addr × List Str)}, BsAt H bs → DpAll K H (refs bs) (bs.map fun b => PyData.list (b.2.map PyData.str))
  | [], _ => .nil
  | b :: bs, h => .cons (.lst (SqL.of (h b List.mem_cons_self)) (dpAll_strs _)) (dpAll_bs fun c hc => h c (List.mem_cons_of_mem _ hc))
theorem any_bs {bs : List (Addr × List Str)} {L : List Str} : ((bs.map fun b => PyData.list (b.2.map PyData.str)).any fun z => PyData.eqv z (.list (L.map PyData.str))) = decide (L ∈ bs.map (·.2)) := by
  rw [Bool.eq_iff_iff, List.any_eq_true, decide_eq_true_iff]
  refine ⟨fun ⟨z, m, q⟩ => ?_, fun m => ?_⟩
  · obtain ⟨b, mb, rfl⟩ := List.mem_map.mp m
    rw [eqv_lists] at q
    exact List.mem_map.mpr ⟨b, mb, of_decide_eq_true q⟩
  · obtain ⟨b, mb, e⟩ := List.mem_map.mp m
    exact ⟨_, List.mem_map.mpr ⟨b, mb, rfl⟩, by rw [eqv_lists]; exact decide_eq_true e⟩
theorem shaped_bs {bs : List (Addr × List Str)} (h : ∀ b ∈ bs, ∀ x ∈ b.2, PyData.strOk x = true) : SeqAt.shaped (.list (bs.map fun b => PyData.list (b.2.map PyData.str))) = true := by
  have e : (bs.map fun b => PyData.list (b.2.map PyData.str)) = (bs.map (·.2)).map fun L => PyData.list (L.map PyData.str) := by
    rw [List.map_map]
    rfl
  rw [e]
  exact shaped_ls fun L hL => by
    obtain ⟨b, hb, rfl⟩ := List.mem_map.mp hL
    exact h b hb
section
variable {P : Program} {w : World} {K : PySem.W.Frag} {mg : Str → Option Value} {base : Heap}
def spOnce : Sp := fun vs H Q _ => ∃ (a : Addr) (bs : List (Addr × List Str)), vs = [.ref a] ∧ H a = some (.lst (refs bs)) ∧ BsAt H bs ∧ (∀ b ∈ bs, ∀ x ∈ b.2, PyData.strOk x = true) ∧ bs.length < 1000 ∧
  ∀ H' p cs, H' p = some (.lst (refs cs)) → (∀ c ∈ cs, c ∈ bs) → (cs.map (·.2)).Nodup → (∀ b ∈ bs, ∃ c ∈ cs, c.2 = b.2) → cs.length ≤ bs.length → Gr H H' → H p = none → Q (.ref p) H'
abbrev NOn : List Str := ["things", "found", "thing"]
end
end Lamp
set_option maxHeartbeats 1000000
namespace Lamp
open PySem PySem.Spec PyProof.Rows L2
/-! ### the parts, in order; doors as they were drawn -/
open Classical in
theorem comp_same {lit : List Str} {ds : List Ed} {r h : Str} (c : Conn (kept lit ds) r h) : comp lit ds h = comp lit ds r := by
  unfold comp
  refine List.filter_congr fun x _ => ?_
  rw [decide_eq_decide]
  exact ⟨fun z => c.trans z, fun z => c.symm.trans z⟩
def hdS (L : List Str) : Str := L.head?.getD ""
theorem parts_one {lit : List Str} {ds : List Ed} {Ls : List (List Str)} (nd : lit.Nodup) (so : sortedS lit = true) (each : ∀ L ∈ Ls, ∃ r ∈ lit, L = comp lit ds r) (all : ∀ r ∈ lit, comp lit ds r ∈ Ls) (ndL : Ls.Nodup)
    (pw : Ls.Pairwise fun b c => ∀ x y, b.head? = some x → c.head? = some y → ltS y x = false) : Ls = partsL lit ds := by
  have key : ∀ L ∈ Ls, L.head? = some (hdS L) ∧ hdS L ∈ lit ∧ L = comp lit ds (hdS L) := fun L hL => by
    obtain ⟨r, hr, e⟩ := each L hL
    have m : r ∈ L := by
      rw [e]
      exact comp_mem.mpr ⟨hr, .refl _⟩
    obtain ⟨h, t, eL⟩ : ∃ h t, L = h :: t := by
      cases L with
      | nil => cases m
      | cons h t => exact ⟨h, t, rfl⟩
    have eh : hdS L = h := by rw [eL]; rfl
    have mh : h ∈ comp lit ds r := by
      rw [← e, eL]
      exact List.mem_cons_self
    obtain ⟨h1, h2⟩ := comp_mem.mp mh
    rw [eh]
    refine ⟨by rw [eL]; rfl, h1, ?_⟩
    rw [comp_same h2]
    exact e
  have inj : ∀ {a b : List Str}, a ∈ Ls → b ∈ Ls → hdS a = hdS b → a = b := fun {a b} ha hb e => by
    rw [(key a ha).2.2, (key b hb).2.2, e]
  have mem : ∀ x, x ∈ Ls.map hdS ↔ x ∈ lit.filter fun r => decide ((comp lit ds r).head? = some r) := fun x => by
    rw [List.mem_map, List.mem_filter]
    constructor
    · rintro ⟨L, hL, rfl⟩
      obtain ⟨k1, k2, k3⟩ := key L hL
      refine ⟨k2, decide_eq_true ?_⟩
      rw [← k3]
      exact k1
    · rintro ⟨hx, e⟩
      refine ⟨_, all x hx, ?_⟩
      unfold hdS
      rw [of_decide_eq_true e]
      rfl
  have n1 : (Ls.map hdS).Nodup := List.pairwise_map.mpr (List.Pairwise.imp_of_mem (fun {a b} ha hb (ne : a ≠ b) e => ne (inj ha hb e)) ndL)
  have s1 : sortedS (Ls.map hdS) = true := sortedS_pair.mpr (List.pairwise_map.mpr (List.Pairwise.imp_of_mem (fun {a b} ha hb h => h _ _ (key a ha).1 (key b hb).1) pw))
  have e := sorted_one ((List.perm_ext_iff_of_nodup n1 (nd.sublist List.filter_sublist)).mpr mem) s1 (sorted_sub so List.filter_sublist)
  unfold partsL
  rw [← e, List.map_map]
  have go : ∀ {l : List (List Str)}, (∀ L ∈ l, L = comp lit ds (hdS L)) → l = l.map (comp lit ds ∘ hdS) := fun {l} => by
    induction l with
    | nil => exact fun _ => rfl
    | cons a l ih =>
        intro h
        show a :: l = comp lit ds (hdS a) :: l.map (comp lit ds ∘ hdS)
        rw [← h a List.mem_cons_self, ← ih fun L hL => h L (List.mem_cons_of_mem _ hL)]
  exact go fun L hL => (key L hL).2.2
/-- the doors kept, as they were drawn -/
theorem nrm_kept {lit : List Str} {es ds : List Ed} (h : ∀ d ∈ ds, ∃ e ∈ es, Nrm e d) : ∀ d ∈ kept lit ds, ∃ e ∈ kept lit es, Nrm e d := fun d hd => by
  obtain ⟨m1, m2, m3⟩ := kept_mem.mp hd
  obtain ⟨e, he, n⟩ := h d m1
  refine ⟨e, kept_mem.mpr ?_, n⟩
  rcases n with rfl | rfl
  · exact ⟨he, m2, m3⟩
  · exact ⟨he, m3, m2⟩
theorem nrm_sym {a b : Ed} (h : Nrm a b) : Nrm b a := by
  rcases h with rfl | rfl
  · exact .inl rfl
  · exact .inr rfl
theorem nrm_kept2 {lit : List Str} {es ds : List Ed} (h : ∀ e ∈ es, ∃ d ∈ ds, Nrm d e) : ∀ e ∈ kept lit es, ∃ d ∈ kept lit ds, Nrm d e := nrm_kept h
theorem conn_kept {lit : List Str} {es ds : List Ed} (nr : ∀ e ∈ es, ∃ d ∈ ds, Nrm d e) (rn : ∀ d ∈ ds, ∃ e ∈ es, Nrm e d) {a b : Str} : Conn (kept lit es) a b ↔ Conn (kept lit ds) a b := ⟨nrm_conn (nrm_kept nr), nrm_conn (nrm_kept rn)⟩
end Lamp
set_option maxHeartbeats 8000000
namespace Lamp
open PySem PySem.Spec PyProof.Rows L2
/-! ### House.__init__ of anything -/
/-- rooms and doors of a house, joined or not -/
structure PreH (rs : List Str) (ds : List Ed) : Prop where
  nodup : rs.Nodup
  ne : rs ≠ []
  len : rs.length < 60
  dlen : ds.length < 60
  ends : ∀ d ∈ ds, d.1 ∈ rs ∧ d.2 ∈ rs ∧ d.1 ≠ d.2
  noring : ∀ (e : Ed) (l : List Ed), ds.Perm (e :: l) → ¬ Conn l e.1 e.2
theorem PreH.of {rs : List Str} {ds : List Ed} (g : GoodH rs ds) : PreH rs ds := ⟨g.nodup, g.ne, g.len, g.dlen, g.ends, g.noring⟩
theorem PreH.good {rs : List Str} {ds : List Ed} (g : PreH rs ds) (j : ∀ a ∈ rs, ∀ b ∈ rs, Conn ds a b) : GoodH rs ds := ⟨g.nodup, g.ne, g.len, g.dlen, g.ends, j, g.noring⟩
theorem PreH.doors {rs : List Str} {ds : List Ed} (g : PreH rs ds) : GoodDoors rs ds := fun l1 e l2 h => by
  have m : e ∈ ds := by
    rw [h]
    simp
  obtain ⟨h1, h2, h3⟩ := g.ends e m
  refine ⟨h1, h2, h3, fun c => ?_⟩
  have p : ds.Perm (e :: (l1 ++ l2)) := by
    rw [h]
    exact List.perm_middle
  exact g.noring e _ p (c.mono fun x hx => List.mem_append_left _ hx)
theorem PreH.turn {rs rs' : List Str} {ds ds0 ds' : List Ed} (g : PreH rs ds) (p : rs'.Perm rs) (q : Paired Nrm ds ds0) (r : ds'.Perm ds0) : PreH rs' ds' := by
  have m1 : ∀ d ∈ ds', ∃ e ∈ ds, Nrm e d := fun d hd => nrm_r q d (r.mem_iff.mp hd)
  refine ⟨p.nodup_iff.mpr g.nodup, fun z => g.ne (by rw [z] at p; exact p.symm.eq_nil), by rw [p.length_eq]; exact g.len, by rw [r.length_eq, ← paired_len q]; exact g.dlen, fun d hd => ?_, fun e l pe c => ?_⟩
  · obtain ⟨e, he, n⟩ := m1 d hd
    obtain ⟨h1, h2, h3⟩ := g.ends e he
    rcases n with rfl | rfl
    · exact ⟨p.mem_iff.mpr h1, p.mem_iff.mpr h2, h3⟩
    · exact ⟨p.mem_iff.mpr h2, p.mem_iff.mpr h1, h3.symm⟩
  · obtain ⟨us, pu, pq⟩ := paired_perm (r.symm.trans pe) q
    cases pq with
    | cons n pl =>
      have c2 := nrm_conn (nrm_r pl) c
      refine g.noring _ _ pu ?_
      rcases n with z | z
      · rw [z] at c2
        exact c2
      · rw [z] at c2
        exact c2.symm
/-- the doors of a row are pairs of these rooms -/
def DoorsAt (K : PySem.W.Frag) (H : Hp) (rs : List Str) (b : Addr) (es : List Ed) : Prop := ∃ us, RowA K H b us ∧ Paired (fun u e => DoorV K H rs u (some e)) us es
theorem DoorsAt.up {K : PySem.W.Frag} {H H' : Hp} {rs : List Str} {b : Addr} {es : List Ed} (d : DoorsAt K H rs b es) (s : Same H H') : DoorsAt K H' rs b es := by
  obtain ⟨us, r, p⟩ := d
  exact ⟨us, r.up s, Paired.imp (fun _ _ d => d.up s) p⟩
/-- rooms told rightly -/
theorem TellsR.good {K : PySem.W.Frag} {H : Hp} {a : Addr} {rs : List Str} (r : RowA K H a (rs.map V.str)) (nd : rs.Nodup) (ne : rs ≠ []) (l : rs.length < 60) (ok : ∀ r ∈ rs, nameOk r = true) : TellsR K H (.ref a) none := by
  refine .inr ⟨a, _, rfl, r, fun v hv => ?_, by rw [List.length_map]; omega, .inr ⟨rs, [], fun z => ne (List.map_eq_nil_iff.mp z), (List.append_nil _).symm, nd, ok, .inl ⟨rfl, rfl⟩⟩⟩
  obtain ⟨z, hz, rfl⟩ := List.mem_map.mp hv
  refine .inl ⟨z, rfl, ?_⟩
  have h := ok z hz
  unfold nameOk at h
  simp only [Bool.and_eq_true, decide_eq_true_eq] at h
  omega
theorem kept_all {lit : List Str} {ds : List Ed} (h : ∀ d ∈ ds, d.1 ∈ lit ∧ d.2 ∈ lit) : kept lit ds = ds := List.filter_eq_self.mpr fun d hd => by
  rw [decide_eq_true (h d hd).1, decide_eq_true (h d hd).2]
  rfl
open Classical in
theorem apart_same {lit : List Str} {es ds : List Ed} (h : ∀ a b, Conn (kept lit es) a b ↔ Conn (kept lit ds) a b) : apart lit es = apart lit ds := by
  unfold apart
  cases lit with
  | nil => rfl
  | cons m l =>
    refine List.filter_congr fun x _ => ?_
    rw [decide_eq_decide.mpr (h m x)]
open Classical in
theorem apart_none {rs : List Str} {ds : List Ed} (g : GoodH rs ds) : apart rs ds = [] := by
  unfold apart
  cases rs with
  | nil => rfl
  | cons m l =>
    refine List.filter_eq_nil_iff.mpr fun x hx z => ?_
    rw [kept_all fun d hd => ⟨(g.ends d hd).1, (g.ends d hd).2.1⟩, decide_eq_true (g.join m List.mem_cons_self x hx)] at z
    cases z
theorem row_gx {K : PySem.W.Frag} {H H' : Hp} {x a C dx : Addr} {fs : List (Str × V)} {ws : List V} (r : SqL K H a ws ∨ SqT K H a ws) (hx : H x = some (.ins C dx fs)) (g : Gx x H H') : SqL K H' a ws ∨ SqT K H' a ws := by
  rcases r with r | r
  · refine .inl ?_
    rcases r with (h | ⟨S, h⟩) | h
    · exact .inl (.inl (g.s _ _ h (ne_of h hx (by intro z; cases z))))
    · exact .inl (.inr ⟨S, g.s _ _ h (ne_of h hx (by intro z; cases z))⟩)
    · exact .inr h
  · refine .inr ?_
    rcases r with (h | ⟨S, h⟩) | h
    · exact .inl (.inl (g.s _ _ h (ne_of h hx (by intro z; cases z))))
    · exact .inl (.inr ⟨S, g.s _ _ h (ne_of h hx (by intro z; cases z))⟩)
    · exact .inr h
/-- a house of new objects alone (and its own) -/
def OwnH (H H' : Hp) (C x : Addr) (rs : List Str) (ds : List Ed) : Prop := ∀ G : Hp, (∀ b o, (H b = none ∨ b = x) → H' b = some o → G b = some o) → HouseAt G C x rs ds
theorem OwnH.at_ {H H' : Hp} {C x : Addr} {rs : List Str} {ds : List Ed} (h : OwnH H H' C x rs ds) : HouseAt H' C x rs ds := h H' fun _ _ _ e => e
theorem tups_new {H H' G : Hp} {x : Addr} : ∀ {us : List Addr} {ds : List Ed}, TupsAt H' us ds → (∀ u ∈ us, H u = none) → (∀ b o, (H b = none ∨ b = x) → H' b = some o → G b = some o) → TupsAt G us ds
  | [], [], .nil, _, _ => .nil
  | u :: us, d :: ds, .cons e h, n, hG => .cons (hG _ _ (.inl (n u List.mem_cons_self)) e) (tups_new h (fun v hv => n v (List.mem_cons_of_mem _ hv)) hG)
section
variable {P : Program} {w : World} {K : PySem.W.Frag} {mg : Str → Option Value} {base : Heap} {C CR CD CN : Addr}
def spInitA (K : PySem.W.Frag) (C CR CD CN : Addr) : Sp := fun vs H Q E => ∃ (x dx : Addr) (va vb : V), vs = [.ref x, va, vb] ∧ H x = some (.ins C dx []) ∧
  ((∃ i : Nat, TellsR K H va (some i) ∧ ∀ H' d, Gx x H H' → H d = none → H' d = some (.xd [(("index" : Str), .int (i : Int))]) → E (.ref CR) (some d) H') ∨
   ∃ (a : Addr) (rs : List Str), va = .ref a ∧ RowA K H a (rs.map V.str) ∧ rs.Nodup ∧ rs ≠ [] ∧ rs.length < 60 ∧ (∀ r ∈ rs, nameOk r = true) ∧
    ((∃ i : Nat, TellsD K H rs vb (some i) ∧ ∀ H' d, Gx x H H' → H d = none → H' d = some (.xd [(("index" : Str), .int (i : Int))]) → E (.ref CD) (some d) H') ∨
     ∃ (b : Addr) (es : List Ed), vb = .ref b ∧ DoorsAt K H rs b es ∧ PreH rs es ∧
      (((∀ a ∈ rs, ∀ b ∈ rs, Conn es a b) ∧ ∀ H' rs' ds, rs'.Perm rs → sortedS rs' = true → GoodH rs' ds → (∀ e ∈ es, ∃ d ∈ ds, Nrm d e) → Asc ds → (∀ d ∈ ds, ∃ e ∈ es, Nrm e d) → OwnH H H' C x rs' ds → Gx x H H' → Q .non H') ∨
       ∃ (rs' : List Str) (m : Str), rs'.Perm rs ∧ sortedS rs' = true ∧ (apart rs' es).head? = some m ∧ ∀ H' d, Gx x H H' → H d = none → H' d = some (.xd [(("room" : Str), .str m)]) → E (.ref CN) (some d) H')))
abbrev rSortR (K : PySem.W.Frag) : List V → Hp → VK → Prop := fun xs H Q => rSortedS K xs H Q ∨ rSortTup K xs H Q
theorem sort_row {H : Hp} {a : Addr} {xs : List Str} {Q : VK} (r : SqL K H a (xs.map V.str) ∨ SqT K H a (xs.map V.str)) (l : xs.length < 64) (k : ∀ (ys : List Str) (p : Addr), ys.Perm xs → sortedS ys = true → H p = none → Q (.ref p) (upd H p (.lst (ys.map V.str)))) : rSortR K [.ref a] H Q := by
  rcases r with r | r
  · exact .inl ⟨a, xs, rfl, r, l, k⟩
  · exact .inr ⟨a, xs, rfl, r, l, k⟩
theorem ok_initA {f : Addr} {fd : FuncData} (F : Fun K "__init__" "House.__init__" m_House_init f fd) (T : TxtK mg) (c : ClsH K C) (ER : ErrI P w K mg base "BadRooms" "index" CR) (ED : ErrI P w K mg base "BadDoors" "index" CD) (EN : ErrI P w K mg base "NotJoined" "room" CN)
    (RO : Stands P w K mg base 2 "rooms_fault" ["rooms"] (spRoomsA K)) (DO : Stands P w K mg base 3 "doors_fault" ["rooms", "doors"] (spDoorsA K)) (NO : Stands P w K mg base 1 "rooms_by_doors" ["rooms", "doors"] (spNearN K)) (FO : Stands P w K mg base 3 "first_parted" ["house", "some"] (spFirstG K C)) :
    FnOk P w K mg base (L2.CX P w) 4 f fd ["self", "rooms", "doors"] (spInitA K C CR CD CN) := by
  obtain ⟨fr, dr, Gr', mr, kr, br⟩ := RO
  obtain ⟨fo, do_, Go, mo, ko, bo⟩ := DO
  obtain ⟨fn, dn, Gn, mn, kn, bn⟩ := NO
  obtain ⟨ff, df, Gf, mf, kf, bf⟩ := FO
  obtain ⟨g1, j1, iC1, tI1, GI1, bI1⟩ := ER.ini
  obtain ⟨g2, j2, iC2, tI2, GI2, bI2⟩ := ED.ini
  obtain ⟨g3, j3, iC3, tI3, GI3, bI3⟩ := EN.ini
  refine F.okX scIn (fun vs H Q E h => ?_) (fun cdv A outer s H vs Q E hr h => ?_)
  · obtain ⟨x, dx, va, vb, rfl, _⟩ := h
    rfl
  · obtain ⟨x, dx, va, vb, rfl, hx, k⟩ := h
    refine ⟨_, pss_cons (ps_set (i := 3) scIn.nd rfl (Or.inl rfl) (pe_call Gr' (hr.mono (by decide)) (by rfl) mr kr br .nil pass0 (pa_cons (pv 1) pa_nil)))
      (pss_cons (ps_if (pt_cmp (pc_notN (pv 3)) (by rfl)) (pss_one (ps_raise rfl (takes_of rfl rfl rfl rfl) (pmk_oex ER.oe iC1 tI1 GI1 (hr.mono (by decide)) bI1 .nil pass0 (by rfl) ER.gC (pa_cons (pv 3) pa_nil)))) pss_nil)
      (pss_cons (ps_set (i := 3) scIn.nd rfl (Or.inl rfl) (pe_call Go hr (by rfl) mo ko bo .nil pass0 (pa_cons (pv 1) (pa_cons (pv 2) pa_nil))))
      (pss_cons (ps_if (pt_cmp (pc_notN (pv 3)) (by rfl)) (pss_one (ps_raise rfl (takes_of rfl rfl rfl rfl) (pmk_oex ED.oe iC2 tI2 GI2 (hr.mono (by decide)) bI2 .nil pass0 (by rfl) ED.gC (pa_cons (pv 3) pa_nil)))) pss_nil)
      (pss_cons (ps_fld (pv 0) (pe_callB (CallR.or cr_sortedS cr_sortTup) (by rfl) T.srt PyProof.Rows.boot_sorted (pa_cons (pv 1) pa_nil)) (by rfl))
      (pss_cons (ps_fld (pv 0) (pe_callB cr_sortTwoO (by rfl) T.srt PyProof.Rows.boot_sorted (pa_cons
          (pe_lc (te := tCB (rTupOf K) (tCons (tCB (rSortR K) (tCons (tVar 5) tNil)) tNil)) (own := [("door", 5)]) (g := gName 5) (tt := tYes) rfl scIn.nd (pi_row (pv 2)) (blkOk_by (N := NIn) (sc := defScope m_House_init) (by decide +kernel))
            (fun _ _ _ _ _ => pg_name (i := 5) scIn.nd rfl (Or.inl rfl)) (fun _ _ _ _ _ => pts_nil)
            (fun _ _ _ _ _ => by exact (pe_callTy call_tuple_of (by rfl) T.tup (by decide +kernel) (pa_cons (pe_callB (CallR.or cr_sortedS cr_sortTup) (by rfl) T.srt PyProof.Rows.boot_sorted (pa_cons (pv 5) pa_nil)) pa_nil)))) pa_nil)) (by rfl))
      (pss_cons (ps_fld (pv 0) (pe_call Gn (hr.mono (by decide)) (by rfl) mn kn bn .nil pass0 (pa_cons (pe_fld (f := "_rooms") (pv 0) (by rfl)) (pa_cons (pe_fld (f := "_doors") (pv 0) (by rfl)) pa_nil))) (by rfl))
      (pss_cons (ps_set (i := 4) scIn.nd rfl (Or.inl rfl) (pe_call Gf hr (by rfl) mf kf bf .nil pass0 (pa_cons (pv 0) (pa_cons (pe_fld (f := "_rooms") (pv 0) (by rfl)) pa_nil))))
      (pss_one (ps_if (pt_cmp (pc_notN (pv 4)) (by rfl)) (pss_one (ps_raise rfl (takes_of rfl rfl rfl rfl) (pmk_oex EN.oe iC3 tI3 GI3 (hr.mono (by decide)) bI3 .nil pass0 (by rfl) EN.gC (pa_cons (pv 4) pa_nil)))) pss_nil))))))))), ?_⟩
    rcases k with ⟨i, tl, k⟩ | ⟨a, rs, rfl, ra, nd, ne, lr, ok, k⟩
    · refine ⟨_, rfl, va, some i, rfl, tl, fun H1 g1 => ⟨_, rfl, _, rfl, iteT2 (by simp [ofO]) ?_⟩⟩
      refine ⟨_, rfl, (by show 1 ≤ 1000; decide), fun a na => ⟨a, CR, _, rfl, ER.oe, ER.nF, upd_same, fun d nd ne => ⟨rfl, d, [(("index" : Str), V.int (i : Int))], upd_same, ?_, ?_, ?_⟩⟩⟩
      · rw [upd_ne ne, upd_same]
        rfl
      · rw [upd_ne ne] at nd
        exact nd
      · rw [upd_ne ne] at nd
        exact k _ d (Gx.of (g1.trans (made_gr na nd ne))) (g1.n _ nd) upd_same
    refine ⟨_, rfl, .ref a, none, rfl, TellsR.good ra nd ne lr ok, fun H1 g1 => ⟨_, rfl, _, rfl, iteF2 (by simp [ofO]) ?_⟩⟩
    rcases k with ⟨i, tl, k⟩ | ⟨b, es, rfl, ds_, pre, k⟩
    · refine ⟨_, rfl, _, rfl, a, vb, rs, some i, rfl, ra.up g1.s, nd, by omega, tl.up g1.s, fun H2 g2 => ⟨_, rfl, _, rfl, iteT2 (by simp [ofO]) ?_⟩⟩
      have g12 := g1.trans g2
      refine ⟨_, rfl, (by show 1 ≤ 1000; decide), fun a na => ⟨a, CD, _, rfl, ED.oe, ED.nF, upd_same, fun d nd ne => ⟨rfl, d, [(("index" : Str), V.int (i : Int))], upd_same, ?_, ?_, ?_⟩⟩⟩
      · rw [upd_ne ne, upd_same]
        rfl
      · rw [upd_ne ne] at nd
        exact nd
      · rw [upd_ne ne] at nd
        exact k _ d (Gx.of (g12.trans (made_gr na nd ne))) (g12.n _ nd) upd_same
    obtain ⟨us0, rb, pd⟩ := ds_
    have tD : TellsD K H rs (.ref b) none := .inr ⟨b, us0, us0, es, [], rfl, rb, (List.append_nil _).symm, pd, pre.doors, .inl ⟨rfl, rfl⟩⟩
    refine ⟨_, rfl, _, rfl, a, .ref b, rs, none, rfl, ra.up g1.s, nd, by omega, tD.up g1.s, fun H2 g2' => ⟨_, rfl, _, rfl, iteF2 (by simp [ofO]) ?_⟩⟩
    have g2 := g1.trans g2'
    refine ⟨_, rfl, sort_row (ra.any g2.s) (by omega) fun rs' rq prm srt nra => ?_⟩
    have hx2 := g2.s _ _ hx
    have xra : x ≠ rq := ne_of_none hx2 nra
    have RN : H rq = none := g2.n _ nra
    refine ⟨_, rfl, x, C, dx, [], rfl, (by rw [upd_ne xra]; exact hx2), c.cls, c.nR, (by decide), ?_⟩
    rw [show putF "_rooms" (V.ref rq) [] = ([("_rooms", V.ref rq)] : List (Str × V)) from rfl]
    generalize eH3 : upd (upd H2 rq (.lst (rs'.map V.str))) x (.ins C dx [("_rooms", .ref rq)]) = H3
    have g3 : Gx x H H3 := by
      rw [← eH3]
      exact (Gx.of (g2.trans (Gr.upd nra))).trans Gx.upd
    have hx3 : H3 x = some (.ins C dx [("_rooms", .ref rq)]) := by
      rw [← eH3]
      exact upd_same
    have hr3 : H3 rq = some (.lst (rs'.map V.str)) := by
      rw [← eH3, upd_ne xra.symm, upd_same]
    have rb3 := row_gx rb.len hx g3
    have pd3 : Paired (fun u e => ∃ t, u = V.ref t ∧ (SqL K H3 t [.str e.1, .str e.2] ∨ SqT K H3 t [.str e.1, .str e.2])) us0 es := Paired.imp (fun u e d => by
      obtain ⟨t, eu, r, _⟩ := d
      exact ⟨t, eu, row_gx r.len hx g3⟩) pd
    refine ⟨_, rfl, b, us0, H3, rfl, (fun _ _ e => e), rb3, fun J G wk hG => fun D hD => ?_⟩
    refine lc_it wk (fun j H' => ∃ (us : List Addr) (ds : List Ed), H' D = some (.lst (us.map V.ref)) ∧ TupsAt H' us ds ∧ Paired Nrm (es.take j) ds ∧ Gr H3 H' ∧ (∀ d ∈ ds, ltS d.1 d.2 = true) ∧ ∀ u ∈ us, H3 u = none) ⟨[], [], upd_same, .nil, .nil, Gr.upd hD, (fun d h => by cases h), fun d h => by cases h⟩ (fun j H' _ q => ?_) ?_ ?_
    · obtain ⟨us, ds, q1, q2, q3, q4, _, _⟩ := q
      exact hG _ q4.s
    · rintro j v H' H'' hj ⟨us, ds, q1, q2, q3, q4, q5, q6⟩ ⟨rfl, hv⟩
      obtain ⟨e, ee, t, rfl, rt⟩ := paired_at pd3 hv
      have rt' : SqL K H'' t [.str e.1, .str e.2] ∨ SqT K H'' t [.str e.1, .str e.2] := rt.imp (fun h => q4.s.seq h) fun h => Same.seqT q4.s h
      refine ⟨rfl, _, rfl, sort_row (xs := [e.1, e.2]) rt' (by show 2 < 64; decide) fun ys p py sy np => ?_⟩
      refine ⟨p, _, rfl, .inl ⟨.inl (.inl upd_same), fun l nl => ?_⟩⟩
      have g5 : Gr H'' (upd (upd H'' p (.lst (ys.map V.str))) l (.tup (ys.map V.str))) := (Gr.upd np).trans (Gr.upd nl)
      have ne := (pre.ends e (List.mem_of_getElem? ee)).2.2
      obtain ⟨dd, ed, nd, ls⟩ : ∃ d : Ed, ys.map V.str = [.str d.1, .str d.2] ∧ Nrm e d ∧ ltS d.1 d.2 = true := by
        rcases perm_two py with rfl | rfl
        · exact ⟨e, rfl, .inl rfl, sorted_two sy ne⟩
        · exact ⟨(e.2, e.1), rfl, .inr rfl, sorted_two sy ne.symm⟩
      rw [ed] at g5 ⊢
      have DN : H3 D = none := hD
      have q1' := g5.s _ _ q1
      have tk : es.take (j + 1) = es.take j ++ [e] := by
        rw [List.take_add_one, ee]
        rfl
      refine ⟨us.map V.ref, q1', ?_, us ++ [l], ds ++ [dd], ?_, ?_, ?_, ?_, fun d hd => ?_, fun u hu => ?_⟩
      · rw [List.length_map, paired_len q2, ← paired_len q3, List.length_take]
        exact Nat.lt_of_le_of_lt (Nat.min_le_right _ _) (Nat.lt_trans pre.dlen (by decide))
      · rw [upd_same, List.map_append]
        rfl
      · have r1 := paired_snoc (R := fun (t : Addr) (e : Ed) => (upd (upd H'' p (.lst [V.str dd.1, V.str dd.2])) l (.tup [V.str dd.1, V.str dd.2])) t = some (.tup [.str e.1, .str e.2])) (a := l) (b := dd) upd_same (Paired.imp (fun _ _ e => g5.s _ _ e) q2)
        refine Paired.imp (fun t e h => ?_) r1
        have nt : t ≠ D := ne_of h q1' (by intro z; cases z)
        rw [upd_ne nt]
        exact h
      · rw [tk]
        exact paired_snoc nd q3
      · exact (q4.trans g5).put DN
      · rcases List.mem_append.mp hd with hd | hd
        · exact q5 d hd
        · rw [List.mem_singleton.mp hd]
          exact ls
      · rcases List.mem_append.mp hu with hu | hu
        · exact q6 u hu
        · rw [List.mem_singleton.mp hu]
          exact q4.n _ (none_upd nl).2
    · rintro H4 ⟨us, ds, q1, q2, q3, q4, ql, qn⟩
      rw [paired_len pd3, List.take_length] at q3
      refine ⟨D, us, ds, rfl, SqL.of q1, q2, fun us' ds' da pu pd0 q5 ord nda => ?_⟩
      have pd := pd0.symm
      have asc : Asc ds' := ⟨ord, fun d hd => ql d (pd.mem_iff.mpr hd)⟩
      have pre' : PreH rs' ds' := pre.turn prm q3 pd.symm
      have hx4 := q4.s _ _ hx3
      have xda : x ≠ da := ne_of_none hx4 nda
      refine ⟨_, rfl, x, C, dx, _, rfl, (by rw [upd_ne xda]; exact hx4), c.cls, c.nD, (by show 1 < 1000; decide), ?_⟩
      rw [show putF "_doors" (V.ref da) ([("_rooms", V.ref rq)] : List (Str × V)) = ([("_rooms", V.ref rq), ("_doors", V.ref da)] : List (Str × V)) from rfl]
      generalize eH5 : upd (upd H4 da (.lst (us'.map V.ref))) x (.ins C dx [("_rooms", .ref rq), ("_doors", .ref da)]) = H5
      have g5 : Gx x H4 H5 := by
        rw [← eH5]
        exact (Gx.of (Gr.upd nda)).trans Gx.upd
      have g35 : Gx x H3 H5 := (Gx.of q4).trans g5
      have hx5 : H5 x = some (.ins C dx [("_rooms", .ref rq), ("_doors", .ref da)]) := by
        rw [← eH5]
        exact upd_same
      have hr5 : H5 rq = some (.lst (rs'.map V.str)) := g35.s _ _ hr3 xra.symm
      have hd5 : H5 da = some (.lst (us'.map V.ref)) := by
        rw [← eH5, upd_ne xda.symm, upd_same]
      have ht5 : TupsAt H5 us' ds' := Paired.imp (fun t e h => g5.s _ _ h (ne_of h hx4 (by intro z; cases z))) q5
      refine ⟨_, rfl, x, C, dx, _, _, rfl, hx5, c.cls, c.nR, by rfl, _, rfl, x, C, dx, _, _, rfl, hx5, c.cls, c.nD, by rfl, rq, da, rs', us', ds', rfl, .inl (.inl hr5), .inl (.inl hd5), ht5, pre'.nodup, Nat.lt_trans pre'.len (by decide), Nat.lt_trans pre'.dlen (by decide), pre'.ends, fun H6 na hna s6 n6 nna => ?_⟩
      have hx6 := s6 _ _ hx5
      refine ⟨_, rfl, x, C, dx, _, rfl, hx6, c.cls, c.nN, (by show 2 < 1000; decide), ?_⟩
      rw [show putF "_near" (V.ref na) ([("_rooms", V.ref rq), ("_doors", V.ref da)] : List (Str × V)) = ([("_rooms", V.ref rq), ("_doors", V.ref da), ("_near", V.ref na)] : List (Str × V)) from rfl]
      generalize eH7 : upd H6 x (.ins C dx [("_rooms", .ref rq), ("_doors", .ref da), ("_near", .ref na)]) = H7
      have g7 : Gx x H6 H7 := by
        rw [← eH7]
        exact Gx.upd
      have g57 : Gx x H5 H7 := (Gx.of ⟨s6, n6⟩).trans g7
      have hx7 : H7 x = some (.ins C dx [("_rooms", .ref rq), ("_doors", .ref da), ("_near", .ref na)]) := by
        rw [← eH7]
        exact upd_same
      have hr7 : H7 rq = some (.lst (rs'.map V.str)) := g57.s _ _ hr5 xra.symm
      have own : OwnH H H7 C x rs' ds' := fun G hG => by
        obtain ⟨nf, n1', n2', n3'⟩ := hna
        have nx : ∀ {y : Addr} {o : HO}, H6 y = some o → (∀ C' dx' fs, o ≠ .ins C' dx' fs) → H7 y = some o := fun {y o} e no => g7.s _ _ e (fun z => by
          rw [z, hx6] at e
          exact no _ _ _ (Option.some.inj e).symm)
        have n5 : ∀ b, H5 b = none → H b = none := fun b z => g3.n b (g35.n b z)
        refine ⟨dx, rq, da, na, us', hG _ _ (.inr rfl) hx7, hG _ _ (.inl RN) hr7, hG _ _ (.inl (g3.n _ (q4.n _ nda))) (g57.s _ _ hd5 xda.symm), ?_, nf, hG _ _ (.inl (n5 _ nna)) (nx n1' (fun _ _ _ z => by cases z)), fun r hr => hG _ _ (.inl (n5 _ (n3' r hr))) (nx (n2' r hr) (fun _ _ _ z => by cases z))⟩
        have new : ∀ u ∈ us', H u = none := fun u hu => g3.n _ (qn u (pu.mem_iff.mp hu))
        have all7 : TupsAt H7 us' ds' := Paired.imp (fun t e h => g57.s _ _ h (ne_of h hx5 (by intro z; cases z))) ht5
        exact tups_new all7 new hG
      have hh : HouseAt H7 C x rs' ds' := own.at_
      have gAll : Gx x H H7 := (g3.trans g35).trans g57
      have nr : ∀ e ∈ es, ∃ d ∈ ds', Nrm d e := fun e he => let ⟨d, hd, n⟩ := nrm_l q3 e he; ⟨d, pd.mem_iff.mp hd, n⟩
      have rn : ∀ d ∈ ds', ∃ e ∈ es, Nrm e d := fun d hd => nrm_r q3 d (pd.mem_iff.mpr hd)
      refine ⟨_, rfl, _, rfl, x, C, dx, _, _, rfl, hx7, c.cls, c.nR, by rfl, x, rq, rs', rs', ds', rfl, hh, .inl (.inl hr7), pre'.ne, pre'.nodup, srt, fun r h => h, pre'.len, pre'.ends, fun H8 g8 => ⟨_, rfl, _, rfl, ?_⟩⟩
      rcases k with ⟨jn, k⟩ | ⟨rs2, m, prm2, srt2, ap, k⟩
      · have gd' : GoodH rs' ds' := pre'.good fun a ha b hb => nrm_conn nr (jn a (prm.mem_iff.mp ha) b (prm.mem_iff.mp hb))
        have e0 : apart rs' ds' = [] := apart_none gd'
        rw [e0]
        exact iteF2 (by simp [ofS]) (k H8 rs' ds' prm srt gd' nr asc rn (fun G hG => own G fun b o h e => hG b o h (g8.s _ _ e)) (gAll.trans (Gx.of g8)))
      · have er : rs2 = rs' := sorted_one (prm2.trans prm.symm) srt2 srt
        subst er
        have e0 : (apart rs2 ds').head? = some m := by
          rw [← apart_same fun a b => conn_kept nr rn]
          exact ap
        rw [e0]
        refine iteT2 (by simp [ofS]) ?_
        have g78 := gAll.trans (Gx.of g8)
        refine ⟨_, rfl, (by show 1 ≤ 1000; decide), fun a na => ⟨a, CN, _, rfl, EN.oe, EN.nF, upd_same, fun d nd ne => ⟨rfl, d, [(("room" : Str), V.str m)], upd_same, ?_, ?_, ?_⟩⟩⟩
        · rw [upd_ne ne, upd_same]
          rfl
        · rw [upd_ne ne] at nd
          exact nd
        · rw [upd_ne ne] at nd
          exact k _ d (g78.trans (Gx.of (made_gr na nd ne))) (g78.n _ nd) upd_same
end
end Lamp
set_option maxHeartbeats 8000000
namespace Lamp
open PySem PySem.Spec PyProof.Rows L2
/-! ### _law_pick of anything -/
theorem cut_pre {xs : List V} {i : Nat} (h : i ≤ xs.length) : cutV xs none (some (i : Int)) = xs.take i := by
  unfold cutV
  rw [HT.sIx_none, HT.sIx_nat, Nat.min_eq_left h]
  rfl
theorem cut_suf {xs : List V} {i : Nat} (h : i ≤ xs.length) : cutV xs (some (i : Int)) none = xs.drop i := by
  unfold cutV
  rw [HT.sIx_none, HT.sIx_nat, Nat.min_eq_left h, List.take_of_length_le (by rw [List.length_drop]; exact Nat.le_refl _)]
/-- a thing that may be put into a row, none of the spring's lists -/
def Odd (a l : Addr) (H : Hp) (v : V) : Prop := (v = .non ∨ (∃ i, v = .int i) ∨ (∃ b, v = .bl b) ∨ ∃ z, v = .str z) ∨ ∃ p, v = .ref p ∧ p ≠ a ∧ p ≠ l ∧ ((∃ xs, H p = some (.lst xs)) ∨ (∃ xs, H p = some (.tup xs)) ∨ ∃ kvs, H p = some (.dK kvs))
theorem Odd.gs {a l : Addr} {H H' : Hp} {v : V} (o : Odd a l H v) (g : Gs a l H H') : Odd a l H' v := by
  rcases o with o | ⟨p, e, pa, pl, o⟩
  · exact .inl o
  · refine .inr ⟨p, e, pa, pl, ?_⟩
    rcases o with ⟨xs, o⟩ | ⟨xs, o⟩ | ⟨xs, o⟩
    · exact .inl ⟨xs, g.s _ _ o pa fun z => absurd z pl⟩
    · exact .inr (.inl ⟨xs, g.s _ _ o pa fun z => absurd z pl⟩)
    · exact .inr (.inr ⟨xs, g.s _ _ o pa fun z => absurd z pl⟩)
theorem Odd.knw {K : PySem.W.Frag} {a l : Addr} {H : Hp} {v : V} (o : Odd a l H v) : Knw K H v := by
  rcases o with (rfl | ⟨i, rfl⟩ | ⟨b, rfl⟩ | ⟨z, rfl⟩) | ⟨p, rfl, _, _, ⟨xs, e⟩ | ⟨xs, e⟩ | ⟨xs, e⟩⟩
  · exact .inr ⟨_, fun H' _ => .base .non, kit_ty (by decide +kernel)⟩
  · exact .inr ⟨_, fun H' _ => .base (.int i), kit_ty (by decide +kernel)⟩
  · exact .inr ⟨_, fun H' _ => .base (.bl b), kit_ty (by decide +kernel)⟩
  · exact .inl ⟨z, rfl⟩
  · exact .inr ⟨_, fun H' s => .base (.lst (s _ _ e)), kit_ty (by decide +kernel)⟩
  · exact .inr ⟨_, fun H' s => .base (.tup (s _ _ e)), kit_ty (by decide +kernel)⟩
  · exact .inr ⟨_, fun H' s => .base (.dK (s _ _ e)), kit_ty (by decide +kernel)⟩
def spPickV : Sp := fun vs H Q _ => ∃ (a l p : Addr) (n : Nat) (xs : List V), vs = [.ref a, .ref p] ∧ Spr H a l n ∧ H p = some (.lst xs) ∧ p ≠ a ∧ p ≠ l ∧ xs ≠ [] ∧ n ≤ 1000000 ∧ xs.length < 1000000 ∧
  ∀ H' x, x ∈ xs → Gs a l H H' → Spr H' a l (n + 1) → Q x H'
section
variable {P : Program} {w : World} {K : PySem.W.Frag} {mg : Str → Option Value} {base : Heap}
theorem ok_pickV {f : Addr} {fd : FuncData} (F : Fun K "_law_pick" "_law_pick" s_law_pick f fd) (T : TxtS mg) (DO : Stands P w K mg base 1 "_law_draw" ["stream", "many"] spDraw) : FnOk P w K mg base CX0 2 f fd ["stream", "some"] spPickV := by
  obtain ⟨fD, dD, GD, mD, kD, bD⟩ := DO
  refine F.ok scPk (fun vs H Q E h => ?_) (fun cdv A outer s H vs Q E hr h => ?_)
  · obtain ⟨a, l, p, n, xs, rfl, _⟩ := h
    rfl
  · obtain ⟨a, l, p, n, xs, rfl, hS, hp, pa, pl, ne, hn, hl, k⟩ := h
    refine ⟨_, pss_one (ps_ret (pe_ix ix_list (pv 1) (pe_call GD (hr.mono (by decide)) (by rfl) mD kD bD .nil pass0 (pa_cons (pv 0) (pa_cons (pe_callB call_len_seq (by rfl) T.len PySem.boot_len (pa_cons (pv 1) pa_nil)) pa_nil))) (fun _ _ => rfl))), ?_⟩
    have pos := List.length_pos_iff.mpr ne
    refine ⟨_, rfl, _, rfl, _, rfl, p, _, rfl, .inl (SqL.of hp), a, l, n, _, rfl, hS, hn, (by omega), (by omega), fun H' d sb s2 d0 d1 => ?_⟩
    have g : Gs a l H H' := Gs.of sb s2
    obtain ⟨i, rfl⟩ : ∃ i : Nat, d = (i : Int) := ⟨d.toNat, by omega⟩
    have hi : i < xs.length := by omega
    refine ⟨p, _, _, xs[i], rfl, rfl, SqL.of (g.s _ _ hp pa fun z => absurd z pl), atI_nat (j := i) (List.getElem?_eq_getElem hi), ?_⟩
    exact k H' xs[i] (List.getElem_mem hi) g s2
end
end Lamp
set_option maxHeartbeats 4000000
namespace Lamp
open PySem PySem.Spec PyProof.Rows L2
/-! ### _law_loose -/
def noInt : V → Bool
  | .int _ => false
  | _ => true
theorem ok_noInt {xs : List V} (h : ∀ x ∈ xs, noInt x = true) : okO (.lst xs) = true := by
  show (xs.all fun v => _) = true
  refine List.all_eq_true.mpr fun x hx => ?_
  have := h x hx
  cases x with
  | int _ => cases this
  | _ => rfl
theorem paired_l {α β : Type} {R : α → β → Prop} {p : α → Prop} (h : ∀ a b, R a b → p a) : ∀ {xs : List α} {ys : List β}, Paired R xs ys → ∀ x ∈ xs, p x
  | [], [], .nil, x, m => by cases m
  | a :: xs, b :: ys, .cons r q, x, m => by
    rcases List.mem_cons.mp m with rfl | m
    · exact h _ _ r
    · exact paired_l h q x m
/-- what is loosened (S), and what comes (R: of objects that are new since the first heap) -/
structure ItemOk {α : Type} (S : Hp → V → α → Prop) (R : Hp → Hp → V → α → Prop) : Prop where
  sgs : ∀ {H H' : Hp} {v : V} {x : α} {a l c : Nat}, S H v x → Spr H a l c → Gs a l H H' → S H' v x
  sni : ∀ {H : Hp} {v : V} {x : α}, S H v x → noInt v = true
  rgs : ∀ {B H H' : Hp} {v : V} {x : α} {a l c : Nat}, R B H v x → Spr H a l c → Gs a l H H' → R B H' v x
  rni : ∀ {B H : Hp} {v : V} {x : α}, R B H v x → noInt v = true
  rup : ∀ {B H : Hp} {v : V} {x : α} {D : Addr} {o u : HO}, R B H v x → B D = some u → R B (upd H D o) v x
  rba : ∀ {B B' H : Hp} {v : V} {x : α}, R B H v x → (∀ b, B b = none → B' b = none) → R B' H v x
def S0 : Hp → V → Str → Prop := fun _ v z => v = .str z
def R0 : Hp → Hp → V → Str → Prop := fun _ _ v z => v = .str z
theorem item0 : ItemOk S0 R0 := ⟨fun h _ _ => h, fun h => by rw [show _ = V.str _ from h]; rfl, fun h _ _ => h, fun h => by rw [show _ = V.str _ from h]; rfl, fun h _ => h, fun h _ => h⟩
def SU {α : Type} (S : Hp → V → α → Prop) : Hp → V → List α → Prop := fun H v xs => ∃ p vs, v = .ref p ∧ H p = some (.lst vs) ∧ vs.length ≤ 12 ∧ Paired (S H) vs xs
def RU {α : Type} (R : Hp → Hp → V → α → Prop) : Hp → Hp → V → List α → Prop := fun B H v xs => ∃ q us, v = .ref q ∧ B q = none ∧ (H q = some (.lst us) ∨ H q = some (.tup us)) ∧ Paired (R B H) us xs
theorem itemU {α : Type} {S : Hp → V → α → Prop} {R : Hp → Hp → V → α → Prop} (I : ItemOk S R) : ItemOk (SU S) (RU R) where
  sgs := fun ⟨p, vs, e, hp, le, h⟩ s g => ⟨p, vs, e, g.keep s hp (ok_noInt (paired_l (fun _ _ r => I.sni r) h)), le, Paired.imp (fun _ _ r => I.sgs r s g) h⟩
  sni := fun ⟨p, vs, e, _⟩ => by rw [e]; rfl
  rgs := fun ⟨q, us, e, n, hq, h⟩ s g => ⟨q, us, e, n, hq.imp (fun z => g.keep s z (ok_noInt (paired_l (fun _ _ r => I.rni r) h))) (fun z => g.keep s z rfl), Paired.imp (fun _ _ r => I.rgs r s g) h⟩
  rni := fun ⟨p, vs, e, _⟩ => by rw [e]; rfl
  rup := fun ⟨q, us, e, n, hq, h⟩ d => by
    have ne : q ≠ _ := fun z => by
      rw [z, d] at n
      cases n
    exact ⟨q, us, e, n, by rw [upd_ne ne]; exact hq, Paired.imp (fun _ _ r => I.rup r d) h⟩
  rba := fun ⟨q, us, e, n, hq, h⟩ d => ⟨q, us, e, d _ n, hq, Paired.imp (fun _ _ r => I.rba r d) h⟩
section
variable {P : Program} {w : World} {K : PySem.W.Frag} {mg : Str → Option Value} {base : Heap}
def spLoose {α : Type} (S : Hp → V → α → Prop) (R : Hp → Hp → V → α → Prop) (d : Nat) : Sp := fun vs H Q _ => ∃ (a l c : Nat) (v : V) (x : α), vs = [.ref a, v] ∧ Spr H a l c ∧ S H v x ∧ c + d ≤ 1000000 ∧
  ∀ H' u c', c' ≤ c + d → R H H' u x → Gs a l H H' → Spr H' a l c' → Q u H'
structure TxtLo (mg : Str → Option Value) : Prop where
  isi : mg "isinstance" = none
  list : mg "list" = none
  tuple : mg "tuple" = none
abbrev NLo : List Str := ["stream", "thing", "found", "part"]
theorem scLo2 : FnScope NLo ["stream", "thing"] (defScope s_law_loose) := ⟨rfl, rfl, rfl, by decide +kernel, rfl, by decide +kernel, by decide +kernel⟩
theorem ok_loose0 {f : Addr} {fd : FuncData} (F : Fun K "_law_loose" "_law_loose" s_law_loose f fd) (T : TxtLo mg) : FnOk P w K mg base CX0 1 f fd ["stream", "thing"] (spLoose S0 R0 0) := by
  refine F.ok scLo2 (fun vs H Q E h => ?_) (fun cdv A outer s H vs Q E hr h => ?_)
  · obtain ⟨a, l, c, v, x, rfl, _⟩ := h
    rfl
  · obtain ⟨a, l, c, v, z, rfl, hS, rfl, hc, k⟩ := h
    refine ⟨_, pss_cons (ps_if (pt_not (pt_val (pe_callB call_isiT (by rfl) T.isi PyProof.Rows.Boot.isinstance (pa_cons (pv 1) (pa_cons (pe_tup (pa_cons (pe_bltn (v := .ty "list") (by rfl) T.list PyProof.Rows.Boot.list rfl) (pa_cons (pe_bltn (v := .ty "tuple") (by rfl) T.tuple PyProof.Rows.Boot.tuple rfl) pa_nil))) pa_nil))))) (pss_one (ps_ret (pv 1))) pss_nil)
      pss_dead, ?_⟩
    refine ⟨_, rfl, by show 2 ≤ sizeLine; decide, fun q nq => ?_⟩
    have g0 : Gr H (upd H q (.tup [.ty "list", .ty "tuple"])) := Gr.upd nq
    refine ⟨_, q, _, .type "str", _, false, rfl, upd_same, .cons (.ty _) (.cons (.ty _) .nil), .base (.str z), kitAny_cons (b := false) (kit_ty (by decide +kernel)) (fun _ => kitAny_cons (b := false) (kit_ty (by decide +kernel)) (fun _ => rfl) (fun z => by cases z)) (fun z => by cases z), ?_⟩
    refine ⟨_, rfl, iteT ⟨_, rfl, ?_⟩⟩
    exact k _ _ c (Nat.le_refl _) rfl g0.gs (hS.stay g0.s)
theorem ok_loose {α : Type} {S : Hp → V → α → Prop} {R : Hp → Hp → V → α → Prop} {d k : Nat} (I : ItemOk S R) {f : Addr} {fd : FuncData} (F : Fun K "_law_loose" "_law_loose" s_law_loose f fd) (T : TxtLo mg) (DO : Stands P w K mg base 1 "_law_draw" ["stream", "many"] spDraw) (SO : Stands P w K mg base (k + 1) "_law_loose" ["stream", "thing"] (spLoose S R d)) :
    FnOk P w K mg base CX0 (k + 2) f fd ["stream", "thing"] (spLoose (SU S) (RU R) (1 + 12 * d)) := by
  obtain ⟨fD, dD, GD, mD, kD, bD⟩ := DO
  obtain ⟨fs, ds, Gs', ms, ks, bs⟩ := SO
  refine F.ok scLo2 (fun vs H Q E h => ?_) (fun cdv A outer s H vs Q E hr h => ?_)
  · obtain ⟨a, l, c, v, x, rfl, _⟩ := h
    rfl
  · obtain ⟨a, l, c, v, xs, rfl, hS, ls, hc, k⟩ := h
    refine ⟨_, pss_cons (ps_if (pt_not (pt_val (pe_callB call_isiT (by rfl) T.isi PyProof.Rows.Boot.isinstance (pa_cons (pv 1) (pa_cons (pe_tup (pa_cons (pe_bltn (v := .ty "list") (by rfl) T.list PyProof.Rows.Boot.list rfl) (pa_cons (pe_bltn (v := .ty "tuple") (by rfl) T.tuple PyProof.Rows.Boot.tuple rfl) pa_nil))) pa_nil))))) pss_dead pss_nil)
      (pss_cons (ps_setLc (i := 2) (te := tCall (spLoose S R d) [] E0 (tCons (tVar 0) (tCons (tVar 3) tNil))) (own := [("part", 3)]) (g := gName 3) (tt := tYes) rfl scLo2.nd rfl rfl (sw_true rfl rfl rfl (by decide +kernel)) (pi_list (pv 1)) (blkOk_by (N := NLo) (sc := defScope s_law_loose) (by decide +kernel))
          (fun _ _ _ _ _ => pg_name (i := 3) scLo2.nd rfl (Or.inl rfl)) (fun _ _ _ _ _ => pts_nil)
          (fun _ _ _ _ _ => by exact (pe_call Gs' hr (by rfl) ms ks bs .nil pass0 (pa_cons (pv 0) (pa_cons (pv 3) pa_nil)))))
      (pss_one (ps_ret (pe_ifExp (pt_cmpR op_eq (pe_call GD (hr.mono (by omega)) (by rfl) mD kD bD .nil pass0 (pa_cons (pv 0) (pa_cons pe_int pa_nil))) pe_int (nomark _)) (pv 2)
        (pe_callTy call_tuple_of (by rfl) T.tuple (by decide +kernel) (pa_cons (pv 2) pa_nil)))))), ?_⟩
    refine ⟨_, rfl, by show 2 ≤ sizeLine; decide, fun q nq => ?_⟩
    have g0 : Gr H (upd H q (.tup [.ty "list", .ty "tuple"])) := Gr.upd nq
    obtain ⟨p, vs, rfl, hp, le, items⟩ := ls
    have hp0 := g0.s _ _ hp
    refine ⟨_, q, _, .type "list", _, true, rfl, upd_same, .cons (.ty _) (.cons (.ty _) .nil), .base (.lst hp0), kitAny_cons (b := true) (kit_ty (by decide +kernel)) (fun z => by cases z) (fun _ => rfl), ?_⟩
    refine ⟨_, rfl, iteF ?_⟩
    have hS0 := hS.stay g0.s
    have it0 : Paired (S (upd H q (.tup [.ty "list", .ty "tuple"]))) vs xs := Paired.imp (fun _ _ r => I.sgs r hS g0.gs) items
    generalize upd H q (.tup [.ty "list", .ty "tuple"]) = H0 at g0 hp0 hS0 it0
    refine ⟨_, rfl, p, rfl, ⟨_, SqL.of hp0⟩, fun D hD => ?_⟩
    have okx : okO (.lst vs) = true := ok_noInt (paired_l (fun _ _ r => I.sni r) items)
    have lxs : vs.length = xs.length := paired_len items
    obtain ⟨B, hB⟩ : ∃ B, B = upd H0 D (.lst []) := ⟨_, rfl⟩
    have eB : B D = some (.lst []) := by
      rw [hB]
      exact upd_same
    have BH : ∀ b, B b = none → H b = none := fun b z => by
      rw [hB] at z
      exact g0.n _ (none_upd z).2
    refine lc_it (walk_list (xs := vs)) (fun j H' => ∃ (ys : List V) (c' : Nat), H' D = some (.lst ys) ∧ Paired (R B H') ys (xs.take j) ∧ Gs a l H0 H' ∧ Spr H' a l c' ∧ c' ≤ c + j * d ∧ ∀ b, H' b = none → B b = none) ⟨[], c, upd_same, .nil, (Gr.upd hD).gs, hS0.stay (same_upd hD), by omega, ?_⟩ (fun j H' _ ⟨ys, c', q1, q2, q3, q4, q5, q6⟩ => SqL.of (q3.keep hS0 hp0 okx)) ?_ ?_
    · rw [hB]
      exact fun b z => z
    · rintro j v H' H'' hj ⟨ys, c', q1, q2, q3, q4, q5, q6⟩ ⟨rfl, hv⟩
      obtain ⟨x, ex, sv⟩ := paired_at it0 hv
      have b1 : j * d ≤ 12 * d := Nat.mul_le_mul_right _ (by omega)
      have b2 : (j + 1) * d = j * d + d := Nat.succ_mul _ _
      have b3 : (j + 1) * d ≤ 12 * d := Nat.mul_le_mul_right _ (by omega)
      refine ⟨rfl, _, rfl, _, rfl, a, l, c', v, x, rfl, q4, I.sgs sv hS0 q3, by omega, fun H3 u c3 e1 e2 e3 e4 => ?_⟩
      have oky : okO (.lst ys) = true := ok_noInt (paired_l (fun _ _ r => I.rni r) q2)
      have hD3 := e3.keep q4 q1 oky
      have tk : xs.take (j + 1) = xs.take j ++ [x] := by
        rw [List.take_add_one, ex]
        rfl
      have all3 : Paired (R B H3) (ys ++ [u]) (xs.take (j + 1)) := by
        rw [tk]
        exact paired_snoc (I.rba e2 q6) (Paired.imp (fun _ _ r => I.rgs r q4 e3) q2)
      refine ⟨_, hD3, ?_, ys ++ [u], c3, upd_same, Paired.imp (fun _ _ r => I.rup r eB) all3, (q3.trans e3).put hD, e4.updN (hS0.na hD) (hS0.nl hD), by omega, fun b z => q6 b (e3.n b (none_upd z).2)⟩
      rw [paired_len q2, List.length_take]
      exact Nat.lt_of_le_of_lt (Nat.min_le_right _ _) (Nat.lt_of_le_of_lt (by omega : xs.length ≤ 12) (by decide))
    · rintro H' ⟨ys, c', q1, q2, q3, q4, q5, q6⟩
      rw [lxs, List.take_length] at q2
      have b1 : vs.length * d ≤ 12 * d := Nat.mul_le_mul_right _ le
      have oky : okO (.lst ys) = true := ok_noInt (paired_l (fun _ _ r => I.rni r) q2)
      have DN : H D = none := g0.n _ hD
      refine ⟨_, rfl, a, l, c', 3, rfl, q4, by omega, by decide, by decide, fun H4 dr sb s4 d0 d1 => ?_⟩
      have g4 : Gs a l H' H4 := Gs.of sb s4
      have hD4 := g4.keep q4 q1 oky
      have r4 : Paired (R B H4) ys xs := Paired.imp (fun _ _ r => I.rgs r q4 g4) q2
      have gAll := (g0.gs.trans q3).trans g4
      refine ⟨rfl, _, rfl, ?_⟩
      by_cases z : dr = 0
      · refine iteT2 (decide_eq_true (by rw [z])) ⟨_, rfl, ?_⟩
        exact k _ _ (c' + 1) (by omega) ⟨D, ys, rfl, DN, .inl hD4, Paired.imp (fun _ _ r => I.rba r BH) r4⟩ gAll s4
      · refine iteF2 (decide_eq_false fun e => z (V.int.inj e)) ⟨_, rfl, D, ys, rfl, .inl ⟨SqL.of hD4, fun p2 np2 => ?_⟩⟩
        refine k _ _ (c' + 1) (by omega) ⟨p2, ys, rfl, gAll.n _ np2, .inr upd_same, ?_⟩ (gAll.trans (Gr.upd np2).gs) (s4.stay (same_upd np2))
        have r5 : Paired (R B (upd H4 p2 (.tup ys))) ys xs := Paired.imp (fun _ _ r => I.rgs r s4 (Gr.upd np2).gs) r4
        exact Paired.imp (fun _ _ r => I.rba r BH) r5
end
end Lamp
set_option maxHeartbeats 4000000
namespace Lamp
open PySem PySem.Spec PyProof.Rows L2
/-! ### _law_odd_name -/
theorem Odd.knwN {K : PySem.W.Frag} {a l : Addr} {H : Hp} {v : V} (o : Odd a l H v) (h : ∀ z, v = .str z → z.length ≤ 1000) : KnwN K H v := by
  rcases o with (rfl | ⟨i, rfl⟩ | ⟨b, rfl⟩ | ⟨z, rfl⟩) | ⟨p, rfl, _, _, ⟨xs, e⟩ | ⟨xs, e⟩ | ⟨xs, e⟩⟩
  · exact .inr ⟨fun z e => (by cases e), _, fun H' s => .base .non, kit_ty (by decide +kernel)⟩
  · exact .inr ⟨fun z e => (by cases e), _, fun H' s => .base (.int _), kit_ty (by decide +kernel)⟩
  · exact .inr ⟨fun z e => (by cases e), _, fun H' s => .base (.bl _), kit_ty (by decide +kernel)⟩
  · exact .inl ⟨z, rfl, Nat.le_trans (h z rfl) (by decide)⟩
  · exact .inr ⟨fun z e => (by cases e), _, fun H' s => .base (.lst (s _ _ e)), kit_ty (by decide +kernel)⟩
  · exact .inr ⟨fun z e => (by cases e), _, fun H' s => .base (.tup (s _ _ e)), kit_ty (by decide +kernel)⟩
  · exact .inr ⟨fun z e => (by cases e), _, fun H' s => .base (.dK (s _ _ e)), kit_ty (by decide +kernel)⟩
theorem Odd.ofS {a l : Addr} {H : Hp} {z : Str} (h : nameOk z = false) (l0 : z.length ≤ 1000) : Odd a l H (.str z) ∧ nameV (.str z) = false ∧ ∀ u, V.str z = .str u → u.length ≤ 1000 := ⟨.inl (.inr (.inr (.inr ⟨z, rfl⟩))), h, fun u e => by rw [← V.str.inj e]; exact l0⟩
theorem Odd.ofN {a l : Addr} {H : Hp} {v : V} (o : Odd a l H v) (h : nameV v = false) (n : ∀ z, v ≠ .str z) : Odd a l H v ∧ nameV v = false ∧ ∀ u, v = .str u → u.length ≤ 1000 := ⟨o, h, fun u e => absurd e (n u)⟩
section
variable {P : Program} {w : World} {K : PySem.W.Frag} {mg : Str → Option Value} {base : Heap}
def spOddN : Sp := fun vs H Q _ => ∃ (a l : Addr) (n : Nat), vs = [.ref a] ∧ Spr H a l n ∧ n ≤ 900000 ∧
  ∀ H' v, Odd a l H' v → nameV v = false → (∀ z, v = .str z → z.length ≤ 1000) → Gs a l H H' → Spr H' a l (n + 1) → Q v H'
theorem scOdN : FnScope ["stream", "some"] ["stream"] (defScope s_law_odd_name) := ⟨rfl, rfl, rfl, by decide +kernel, rfl, by decide +kernel, by decide +kernel⟩
theorem ok_oddN {f : Addr} {fd : FuncData} (F : Fun K "_law_odd_name" "_law_odd_name" s_law_odd_name f fd) (PO : Stands P w K mg base 2 "_law_pick" ["stream", "some"] spPickV) : FnOk P w K mg base CX0 3 f fd ["stream"] spOddN := by
  obtain ⟨fp, dp, Gp, mp, kp, bp⟩ := PO
  refine F.ok scOdN (fun vs H Q E h => ?_) (fun cdv A outer s H vs Q E hr h => ?_)
  · obtain ⟨a, l, n, rfl, _⟩ := h
    rfl
  · obtain ⟨a, l, n, rfl, hS, hn, k⟩ := h
    refine ⟨_, pss_cons (ps_set (i := 1) scOdN.nd rfl (Or.inl rfl) (pe_lst (pa_cons pe_non (pa_cons pe_int (pa_cons pe_bl (pa_cons pe_str (pa_cons pe_str (pa_cons pe_str (pa_cons pe_str (pa_cons pe_str (pa_cons pe_str
        (pa_cons (pe_lst (pa_cons pe_str pa_nil)) (pa_cons (pe_tup (pa_cons pe_str pa_nil)) (pa_cons pe_dnewK (pa_cons pe_str (pa_cons pe_str (pa_cons pe_str pa_nil)))))))))))))))))
      (pss_one (ps_ret (pe_call Gp hr (by rfl) mp kp bp .nil pass0 (pa_cons (pv 0) (pa_cons (pv 1) pa_nil))))), ?_⟩
    refine ⟨(by show 1 ≤ sizeLine; decide), fun p1 n1 => ?_⟩
    have g1 := Gr.upd (o := .lst [.str "a"]) n1
    have e1 : upd H p1 (.lst [.str "a"]) p1 = some (.lst [.str "a"]) := upd_same
    generalize upd H p1 (.lst [.str "a"]) = H1 at g1 e1
    refine ⟨(by show 1 ≤ sizeLine; decide), fun p2 n2 => ?_⟩
    have g2 := Gr.upd (o := .tup [.str "a"]) n2
    have e2 : upd H1 p2 (.tup [.str "a"]) p2 = some (.tup [.str "a"]) := upd_same
    generalize upd H1 p2 (.tup [.str "a"]) = H2 at g2 e2
    intro p3 n3
    have g3 := Gr.upd (o := .dK []) n3
    have e3 : upd H2 p3 (.dK []) p3 = some (.dK []) := upd_same
    generalize upd H2 p3 (.dK []) = H3 at g3 e3
    refine ⟨(by show 15 ≤ sizeLine; decide), fun p n4 => ?_⟩
    have g4 := Gr.upd (o := .lst [.non, .int 5, .bl true, .str "", .str "A", .str "0a", .str "a b", .str "a_b", .str "abcdefghijklm", .ref p1, .ref p2, .ref p3, .str "a-", .str "a\n", .str "\na"]) n4
    have e4 : upd H3 p (.lst [.non, .int 5, .bl true, .str "", .str "A", .str "0a", .str "a b", .str "a_b", .str "abcdefghijklm", .ref p1, .ref p2, .ref p3, .str "a-", .str "a\n", .str "\na"]) p = _ := upd_same
    generalize upd H3 p (.lst [.non, .int 5, .bl true, .str "", .str "A", .str "0a", .str "a b", .str "a_b", .str "abcdefghijklm", .ref p1, .ref p2, .ref p3, .str "a-", .str "a\n", .str "\na"]) = H4 at g4 e4
    have gA := ((g1.trans g2).trans g3).trans g4
    have s4 := hS.stay gA.s
    have pp : ∀ {q : Addr} {G : Hp}, G q = none → Gr H G → q ≠ a ∧ q ≠ l := fun h g => ⟨hS.na (g.n _ h), hS.nl (g.n _ h)⟩
    have a1 := pp n1 (Gr.refl H)
    have a2 := pp n2 g1
    have a3 := pp n3 (g1.trans g2)
    have a4 := pp n4 ((g1.trans g2).trans g3)
    refine ⟨_, rfl, _, rfl, a, l, p, n, _, rfl, s4, e4, a4.1, a4.2, (by intro z; cases z), by omega, (by show 15 < 1000000; decide), fun H5 v mv g5 s5 => ?_⟩
    have E1 := ((g2.trans g3).trans g4).s _ _ e1
    have E2 := (g3.trans g4).s _ _ e2
    have E3 := g4.s _ _ e3
    have od : Odd a l H4 v ∧ nameV v = false ∧ ∀ z, v = .str z → z.length ≤ 1000 := by
      simp only [List.mem_cons, List.not_mem_nil, or_false] at mv
      rcases mv with rfl | rfl | rfl | rfl | rfl | rfl | rfl | rfl | rfl | rfl | rfl | rfl | rfl | rfl | rfl
      · exact Odd.ofN (.inl (.inl rfl)) rfl fun z e => by cases e
      · exact Odd.ofN (.inl (.inr (.inl ⟨_, rfl⟩))) rfl fun z e => by cases e
      · exact Odd.ofN (.inl (.inr (.inr (.inl ⟨_, rfl⟩)))) rfl fun z e => by cases e
      · exact Odd.ofS (by decide +kernel) (by decide +kernel)
      · exact Odd.ofS (by decide +kernel) (by decide +kernel)
      · exact Odd.ofS (by decide +kernel) (by decide +kernel)
      · exact Odd.ofS (by decide +kernel) (by decide +kernel)
      · exact Odd.ofS (by decide +kernel) (by decide +kernel)
      · exact Odd.ofS (by decide +kernel) (by decide +kernel)
      · exact Odd.ofN (.inr ⟨p1, rfl, a1.1, a1.2, .inl ⟨_, E1⟩⟩) rfl fun z e => by cases e
      · exact Odd.ofN (.inr ⟨p2, rfl, a2.1, a2.2, .inr (.inl ⟨_, E2⟩)⟩) rfl fun z e => by cases e
      · exact Odd.ofN (.inr ⟨p3, rfl, a3.1, a3.2, .inr (.inr ⟨_, E3⟩)⟩) rfl fun z e => by cases e
      · exact Odd.ofS (by decide +kernel) (by decide +kernel)
      · exact Odd.ofS (by decide +kernel) (by decide +kernel)
      · exact Odd.ofS (by decide +kernel) (by decide +kernel)
    exact k H5 v (od.1.gs g5) od.2.1 od.2.2 (gA.gs.trans g5) s5
end
end Lamp
set_option maxHeartbeats 8000000
namespace Lamp
open PySem PySem.Spec PyProof.Rows L2
/-! ### the drawn house, none of its rooms called "never" -/
def NokN (r : Str) : Prop := nameOk r = true ∧ r ≠ "never"
theorem names_okN : (gNames.all fun r => nameOk r && decide (r ≠ ("never" : Str))) = true := by decide +kernel
def spNamesN : Sp := fun vs H Q _ => ∃ (a l : Addr) (n m : Nat), vs = [.ref a, .int (m : Nat)] ∧ Spr H a l n ∧ n ≤ 900000 ∧ 1 ≤ m ∧ m ≤ 12 ∧
  ∀ H' q (rs : List Str), rs.length = m → rs.Nodup → (∀ r ∈ rs, NokN r) → Gs a l H H' → Spr H' a l (n + 12) → H q = none → H' q = some (.lst (rs.map V.str)) → Q (.ref q) H'
def spHHouseN : Sp := fun vs H Q _ => ∃ (a l : Addr) (n : Nat) (m : Nat), vs = [.ref a, .int (m : Nat)] ∧ Spr H a l n ∧ 1 ≤ m ∧ m ≤ 12 ∧ n ≤ 800000 ∧
  ∀ H' t p q (rs : List Str) ts es k, k ≤ n + 100 → rs.length ≤ 12 → es.length < 30 → GoodH rs es → (∀ r ∈ rs, NokN r) → H' p = some (.lst (rs.map V.str)) → TupsAt H' ts es → H' q = some (.lst (ts.map V.ref)) → H' t = some (.tup [.ref p, .ref q]) → Gs a l H H' → Spr H' a l k → Q (.ref t) H'
section
variable {P : Program} {w : World} {K : PySem.W.Frag} {mg : Str → Option Value} {base : Heap} {C : Addr}
theorem ok_namesN {f : Addr} {fd : FuncData} (F : Fun K "_law_h_names" "_law_h_names" s_law_h_names f fd) (MO : Stands P w K mg base 2 "_law_mixed" ["stream", "some"] (spMixed K)) : FnOk P w K mg base CX0 3 f fd ["stream", "many"] spNamesN := by
  obtain ⟨fM, dM, GM, mM, kM, bM⟩ := MO
  refine F.ok scHm (fun vs H Q E h => ?_) (fun cdv A outer s H vs Q E hr h => ?_)
  · obtain ⟨a, l, n, m, rfl, _⟩ := h
    rfl
  · obtain ⟨a, l, n, m, rfl, hS, hn, h1, h2, k⟩ := h
    refine ⟨_, pss_cons (ps_set (i := 2) scHm.nd rfl (Or.inl rfl) (pe_lst (pa_cons pe_str (pa_cons pe_str (pa_cons pe_str (pa_cons pe_str (pa_cons pe_str (pa_cons pe_str (pa_cons pe_str (pa_cons pe_str (pa_cons pe_str (pa_cons pe_str (pa_cons pe_str (pa_cons pe_str pa_nil))))))))))))))
      (pss_one (ps_ret (pe_slice sl_list (pe_call GM hr (by rfl) mM kM bM .nil pass0 (pa_cons (pv 0) (pa_cons (pv 2) pa_nil))) po_none (po_some (pv 1))))), ?_⟩
    refine ⟨(by show 12 ≤ sizeLine; decide), fun p hp => ?_⟩
    have g1 : Gr H (upd H p (.lst (gNames.map V.str))) := Gr.upd hp
    refine ⟨_, rfl, _, rfl, a, l, p, n, gNames.map V.str, rfl, hS.stay g1.s, .inl (SqL.of upd_same), (by show n + 12 ≤ 1000000; omega), (by decide), fun H2 q ys sb s2 nq e2 py => ?_⟩
    obtain ⟨zs, rfl, pz⟩ := perm_strs py
    have g2 : Gs a l (upd H p (.lst (gNames.map V.str))) H2 := Gs.of sb s2
    refine ⟨_, rfl, _, rfl, q, _, rfl, SqL.of e2, fun r nr => ?_⟩
    have ln : zs.length = 12 := pz.length_eq
    have ec : cutV (zs.map V.str) none (some ((m : Nat) : Int)) = (zs.take m).map V.str := by
      unfold cutV
      rw [HT.sIx_nat, HT.sIx_none, List.drop_zero, Nat.sub_zero, List.length_map, ln, Nat.min_eq_left h2, List.map_take]
    rw [ec]
    have g3 : Gs a l H2 (upd H2 r (.lst ((zs.take m).map V.str))) := (Gr.upd nr).gs
    refine k _ r (zs.take m) (by rw [List.length_take, ln]; omega) (List.Nodup.sublist (List.take_sublist _ _) (pz.nodup_iff.mpr names_unlike)) (fun x hx => by
      have z := List.all_eq_true.mp names_okN x (pz.mem_iff.mp (List.mem_of_mem_take hx))
      rw [Bool.and_eq_true] at z
      exact ⟨z.1, of_decide_eq_true z.2⟩) ((g1.gs.trans g2).trans g3) ((s2.stay (same_upd nr))) (g1.n _ (g2.n _ nr)) upd_same
theorem ok_hhouseN {f : Addr} {fd : FuncData} (F : Fun K "_law_h_house" "_law_h_house" s_law_h_house f fd) (DO : Stands P w K mg base 1 "_law_draw" ["stream", "many"] spDraw) (MO : Stands P w K mg base 2 "_law_mixed" ["stream", "some"] (spMixed K)) (NO : Stands P w K mg base 3 "_law_h_names" ["stream", "many"] spNamesN) (EO : Stands P w K mg base 3 "_law_h_doors" ["stream", "rooms"] spHDoors) : FnOk P w K mg base CX0 4 f fd ["stream", "most"] spHHouseN := by
  obtain ⟨fM, dM, GM, mM, kM, bM⟩ := MO
  obtain ⟨fD, dD, GD, mD, kD, bD⟩ := DO
  obtain ⟨fN, dN, GN, mN, kN, bN⟩ := NO
  obtain ⟨fE, dE, GE, mE, kE, bE⟩ := EO
  refine F.ok scHH (fun vs H Q E h => ?_) (fun cdv A outer s H vs Q E hr h => ?_)
  · obtain ⟨a, l, n, m, rfl, _⟩ := h
    rfl
  · obtain ⟨a, l, n, m, rfl, hS, m1, m2, hn, k⟩ := h
    refine ⟨_, pss_cons (ps_set (i := 2) scHH.nd rfl (Or.inl rfl) (pe_call GN hr (by rfl) mN kN bN .nil pass0 (pa_cons (pv 0) (pa_cons (pe_op op_add pe_int (pe_call GD (hr.mono (by decide)) (by rfl) mD kD bD .nil pass0 (pa_cons (pv 0) (pa_cons (pv 1) pa_nil)))) pa_nil))))
      (pss_one (ps_ret (pe_tup (pa_cons (pe_call GM (hr.mono (by decide)) (by rfl) mM kM bM .nil pass0 (pa_cons (pv 0) (pa_cons (pv 2) pa_nil))) (pa_cons (pe_call GE hr (by rfl) mE kE bE .nil pass0 (pa_cons (pv 0) (pa_cons (pv 2) pa_nil))) pa_nil))))), ?_⟩
    refine ⟨_, rfl, _, rfl, _, rfl, a, l, n, _, rfl, hS, by omega, by omega, by omega, fun H1 d sb1 s1 d0 d1 => ?_⟩
    have g1 : Gs a l H H1 := Gs.of sb1 s1
    obtain ⟨j, rfl⟩ : ∃ j : Nat, d = (j : Int) := ⟨d.toNat, by omega⟩
    have ej : (1 : Int) + (j : Int) = ((1 + j : Nat) : Int) := by omega
    refine ⟨_, _, rfl, rfl, ?_⟩
    refine ⟨a, l, n + 1, 1 + j, by rw [← ej]; rfl, s1, by omega, by omega, by omega, fun H2 p rs lr nd ok g2 s2 np e2 => ?_⟩
    refine ⟨_, rfl, _, rfl, a, l, p, n + 1 + 12, rs.map V.str, rfl, s2, .inl (SqL.of e2), by rw [List.length_map]; omega, by rw [List.length_map]; omega, fun H3 q ys sb3 s3 nq e3 py => ?_⟩
    obtain ⟨zs, rfl, pz⟩ := perm_strs py
    rw [List.length_map] at s3
    have g3 : Gs a l H2 H3 := Gs.of sb3 s3
    have rne : rs ≠ [] := fun z => by
      rw [z] at lr
      simp at lr
      omega
    refine ⟨_, rfl, _, rfl, a, l, p, _, rs, rfl, s3, g3.keep s2 e2 (ok_strs _), rne, by omega, nd, by omega, fun H4 u ts es es0 k4 le4 tr pe te eu g4 s4 nu => ?_⟩
    refine ⟨(by show 2 ≤ sizeLine; decide), fun t nt => ?_⟩
    have g5 : Gs a l H4 (upd H4 t (.tup [.ref q, .ref u])) := (Gr.upd nt).gs
    have gd : GoodH zs es := (tree_good tr (by omega)).turn pz (nrm_refl es0) pe
    refine k _ t q u zs ts es k4 (by omega) (by rw [pz.length_eq]; omega) (by have := tree_len tr; rw [pe.length_eq]; omega) gd (fun r hr => ok r (pz.mem_iff.mp hr)) ?_ (TupsAt.gs te s4 g5) (g5.keep s4 eu (ok_refs _)) upd_same ((((g1.trans g2).trans g3).trans g4).trans g5) (s4.stay (same_upd nt))
    exact (g4.trans g5).keep s3 e3 (ok_strs _)
end
end Lamp
set_option maxHeartbeats 4000000
namespace Lamp
open PySem PySem.Spec PyProof.Rows L2
/-! ### _law_odd_door -/
/-- what follows an expression is shown once -/
def tCut (te : TE) : TE := fun σ H Q => ∃ S : VK, te σ H S ∧ ∀ v H', S v H' → Q v H'
theorem pe_cut {X : Cx} {e : Expr} {te : TE} (h : PE X e te) : PE X e (tCut te) := ⟨fun pins s σ H Q I ⟨S, hs, q⟩ => wpAny_mono (h.run pins s σ H S I hs) (fun v s' ⟨x, H1, I1, r1, q1⟩ => ⟨x, H1, I1, r1, q _ _ q1⟩) fun _ _ z => z⟩
/-- no door, or one that closes a ring -/
def OddD (a l : Addr) (rs : List Str) (es : List Ed) (H : Hp) (v : V) : Prop := (v = .non ∨ (∃ i, v = .int i) ∨ (∃ b, v = .bl b) ∨ ∃ z, v = .str z) ∨
  ∃ p, v = .ref p ∧ p ≠ a ∧ p ≠ l ∧ ((∃ kvs, H p = some (.dK kvs)) ∨ ∃ ws, (H p = some (.lst ws) ∨ H p = some (.tup ws)) ∧ (∀ u ∈ ws, Odd a l H u) ∧
    ((∀ x y : Str, ws = [.str x, .str y] → x ∈ rs → y ∈ rs → x = y) ∨ ∃ x y : Str, ws = [.str x, .str y] ∧ x ∈ rs ∧ y ∈ rs ∧ x ≠ y ∧ Conn es x y))
theorem OddD.gs {a l : Addr} {rs : List Str} {es : List Ed} {H H' : Hp} {v : V} (o : OddD a l rs es H v) (g : Gs a l H H') : OddD a l rs es H' v := by
  rcases o with o | ⟨p, e, pa, pl, ⟨kvs, h⟩ | ⟨ws, h, it, c⟩⟩
  · exact .inl o
  · exact .inr ⟨p, e, pa, pl, .inl ⟨kvs, g.s _ _ h pa fun z => absurd z pl⟩⟩
  · exact .inr ⟨p, e, pa, pl, .inr ⟨ws, h.imp (fun h => g.s _ _ h pa fun z => absurd z pl) fun h => g.s _ _ h pa fun z => absurd z pl, fun u hu => (it u hu).gs g, c⟩⟩
theorem OddD.door {K : PySem.W.Frag} {a l : Addr} {rs : List Str} {es : List Ed} {H : Hp} {v : V} (o : OddD a l rs es H v) : DoorV K H rs v none ∨ ∃ e, DoorV K H rs v (some e) ∧ Conn es e.1 e.2 := by
  have no : ∀ {t : Value}, (∀ H', Same H H' → TyX K H' v t) → PySem.W.kitOne K t (.type "list") = some false → PySem.W.kitOne K t (.type "tuple") = some false → DoorV K H rs v none := fun ty k1 k2 =>
    .inl ⟨_, ty, kitAny_cons (b := false) k1 (fun _ => kitAny_cons (b := false) k2 (fun _ => rfl) (fun z => by cases z)) (fun z => by cases z)⟩
  rcases o with (rfl | ⟨i, rfl⟩ | ⟨b, rfl⟩ | ⟨z, rfl⟩) | ⟨p, rfl, pa, pl, ⟨kvs, h⟩ | ⟨ws, h, it, c⟩⟩
  · exact .inl (no (fun _ _ => .base .non) (kit_ty (by decide +kernel)) (kit_ty (by decide +kernel)))
  · exact .inl (no (fun _ _ => .base (.int _)) (kit_ty (by decide +kernel)) (kit_ty (by decide +kernel)))
  · exact .inl (no (fun _ _ => .base (.bl _)) (kit_ty (by decide +kernel)) (kit_ty (by decide +kernel)))
  · exact .inl (no (fun _ _ => .base (.str _)) (kit_ty (by decide +kernel)) (kit_ty (by decide +kernel)))
  · exact .inl (no (fun _ s => .base (.dK (s _ _ h))) (kit_ty (by decide +kernel)) (kit_ty (by decide +kernel)))
  · have row : RowA K H p ws := by
      rcases h with h | h
      · exact .inl ⟨SqL.of h, fun H' s => .base (.lst (s _ _ h))⟩
      · exact .inr ⟨SqT.of h, fun H' s => .base (.tup (s _ _ h))⟩
    rcases c with c | ⟨x, y, rfl, mx, my, ne, cn⟩
    · exact .inl (.inr ⟨p, ws, rfl, row, fun u hu => (it u hu).knw, c⟩)
    · exact .inr ⟨(x, y), ⟨p, rfl, row, mx, my, ne⟩, cn⟩
theorem Odd.mono {a l : Addr} {H H' : Hp} {v : V} (o : Odd a l H v) (g : ∀ b o, H b = some o → H' b = some o) : Odd a l H' v := by
  rcases o with o | ⟨p, e, pa, pl, o⟩
  · exact .inl o
  · refine .inr ⟨p, e, pa, pl, ?_⟩
    rcases o with ⟨xs, o⟩ | ⟨xs, o⟩ | ⟨xs, o⟩
    · exact .inl ⟨xs, g _ _ o⟩
    · exact .inr (.inl ⟨xs, g _ _ o⟩)
    · exact .inr (.inr ⟨xs, g _ _ o⟩)
/-- so beside a list that grows -/
def OddX (a l : Addr) (rs : List Str) (es : List Ed) (L : Addr) (H : Hp) (v : V) : Prop := ∀ G : Hp, (∀ b o, b ≠ L → H b = some o → G b = some o) → OddD a l rs es G v
theorem OddX.up {a l L : Addr} {rs : List Str} {es : List Ed} {H H' : Hp} {v : V} (o : OddX a l rs es L H v) (s : ∀ b o, b ≠ L → H b = some o → H' b = some o) : OddX a l rs es L H' v := fun G h => o G fun b o n e => h b o n (s b o n e)
theorem OddX.sc {a l L : Addr} {rs : List Str} {es : List Ed} {H : Hp} {v : V} (h : v = .non ∨ (∃ i, v = .int i) ∨ (∃ b, v = .bl b) ∨ ∃ z, v = .str z) : OddX a l rs es L H v := fun G _ => .inl h
theorem OddX.dk {a l L p : Addr} {rs : List Str} {es : List Ed} {H : Hp} {kvs : List (Key × V)} (h : H p = some (.dK kvs)) (pL : p ≠ L) (pa : p ≠ a) (pl : p ≠ l) : OddX a l rs es L H (.ref p) := fun G g => .inr ⟨p, rfl, pa, pl, .inl ⟨kvs, g _ _ pL h⟩⟩
theorem OddX.no {a l L p : Addr} {rs : List Str} {es : List Ed} {H : Hp} {ws : List V} (h : H p = some (.lst ws) ∨ H p = some (.tup ws)) (pL : p ≠ L) (pa : p ≠ a) (pl : p ≠ l) (it : ∀ G : Hp, (∀ b o, b ≠ L → H b = some o → G b = some o) → ∀ u ∈ ws, Odd a l G u) (c : ∀ x y : Str, ws = [.str x, .str y] → x ∈ rs → y ∈ rs → x = y) : OddX a l rs es L H (.ref p) :=
  fun G g => .inr ⟨p, rfl, pa, pl, .inr ⟨ws, h.imp (g _ _ pL) (g _ _ pL), it G g, .inl c⟩⟩
theorem OddX.yes {a l L p : Addr} {rs : List Str} {es : List Ed} {H : Hp} {x y : Str} (h : H p = some (.lst [.str x, .str y]) ∨ H p = some (.tup [.str x, .str y])) (pL : p ≠ L) (pa : p ≠ a) (pl : p ≠ l) (mx : x ∈ rs) (my : y ∈ rs) (ne : x ≠ y) (cn : Conn es x y) : OddX a l rs es L H (.ref p) :=
  fun G g => .inr ⟨p, rfl, pa, pl, .inr ⟨_, h.imp (g _ _ pL) (g _ _ pL), fun u hu => by
    rcases List.mem_cons.mp hu with rfl | hu
    · exact .inl (.inr (.inr (.inr ⟨_, rfl⟩)))
    · rw [List.mem_singleton.mp hu]
      exact .inl (.inr (.inr (.inr ⟨_, rfl⟩))), .inr ⟨x, y, rfl, mx, my, ne, cn⟩⟩⟩
section
variable {P : Program} {w : World} {K : PySem.W.Frag} {mg : Str → Option Value} {base : Heap}
def spOddD : Sp := fun vs H Q _ => ∃ (a l p q : Addr) (n : Nat) (rs : List Str) (ts : List Addr) (es : List Ed), vs = [.ref a, .ref p, .ref q] ∧ Spr H a l n ∧ n ≤ 900000 ∧ H p = some (.lst (rs.map V.str)) ∧ H q = some (.lst (ts.map V.ref)) ∧ TupsAt H ts es ∧
  rs ≠ [] ∧ rs.Nodup ∧ rs.length ≤ 12 ∧ es.length < 30 ∧ (∀ r ∈ rs, NokN r) ∧ (∀ e ∈ es, e.1 ∈ rs ∧ e.2 ∈ rs ∧ e.1 ≠ e.2) ∧ (es.length + 1 = rs.length → ∀ x ∈ rs, ∀ y ∈ rs, Conn es x y) ∧
  ∀ H' v, OddD a l rs es H' v → Gs a l H H' → Spr H' a l (n + 2) → Q v H'
abbrev NOd : List Str := ["stream", "rooms", "doors", "good", "odd", "some", "one", "other"]
theorem scOd : FnScope NOd ["stream", "rooms", "doors"] (defScope s_law_odd_door) := ⟨rfl, rfl, rfl, by decide +kernel, rfl, by decide +kernel, by decide +kernel⟩
theorem ok_oddD {f : Addr} {fd : FuncData} (F : Fun K "_law_odd_door" "_law_odd_door" s_law_odd_door f fd) (T : TxtS mg) (PO : Stands P w K mg base 2 "_law_pick" ["stream", "some"] spPickV) : FnOk P w K mg base CX0 3 f fd ["stream", "rooms", "doors"] spOddD := by
  obtain ⟨fp, dp, Gp, mp, kp, bp⟩ := PO
  refine F.ok scOd (fun vs H Q E h => ?_) (fun cdv A outer s H vs Q E hr h => ?_)
  · obtain ⟨a, l, p, q, n, rs, ts, es, rfl, _⟩ := h
    rfl
  · obtain ⟨a, l, p, q, n, rs, ts, es, rfl, hS, hn, hp, hq, ht, rne, rnd, lrs, les, nok, ends, full, k⟩ := h
    refine ⟨_, pss_cons (ps_set (i := 3) scOd.nd rfl (Or.inl rfl) (pe_cut (pe_ifExp (pt_cmpR op_gt (pe_callB call_len_seq (by rfl) T.len PySem.boot_len (pa_cons (pv 1) pa_nil)) pe_int (nomark _))
          (pe_lst (pa_cons (pe_ix ix_list (pv 1) pe_int (fun _ _ => rfl)) (pa_cons (pe_ix ix_list (pv 1) (pe_un un_neg pe_int) (fun _ _ => rfl)) pa_nil))) (pe_lst (pa_cons pe_str (pa_cons pe_str pa_nil))))))
      (pss_cons (ps_set (i := 4) scOd.nd rfl (Or.inl rfl) (pe_call Gp hr (by rfl) mp kp bp .nil pass0 (pa_cons (pv 0) (pa_cons (pe_lst (pa_cons pe_non (pa_cons pe_int (pa_cons pe_str (pa_cons pe_str (pa_cons pe_bl (pa_cons (pe_lst (pa_cons pe_str pa_nil)) (pa_cons (pe_tup (pa_cons pe_str pa_nil)) (pa_cons pe_dnewK pa_nil))))))))) pa_nil))))
      (pss_cons (ps_set (i := 5) scOd.nd rfl (Or.inl rfl) (pe_lst (pa_cons pe_non (pa_cons pe_int (pa_cons pe_str (pa_cons (pe_lst pa_nil) (pa_cons (pe_tup pa_nil)
          (pa_cons (pe_slice sl_list (pv 3) po_none (po_some pe_int)) (pa_cons (pe_op op_cat (pv 3) (pe_slice sl_list (pv 3) po_none (po_some pe_int))) (pa_cons pe_dnewK
          (pa_cons (pe_lst (pa_cons (pv 4) (pa_cons (pe_ix ix_list (pv 3) pe_int (fun _ _ => rfl)) pa_nil))) (pa_cons (pe_tup (pa_cons (pe_ix ix_list (pv 3) pe_int (fun _ _ => rfl)) (pa_cons (pv 4) pa_nil))) (pa_cons pe_str
          (pa_cons (pe_op op_rep (pe_slice sl_list (pv 1) po_none (po_some pe_int)) pe_int) pa_nil))))))))))))))
      (pss_cons (ps_for PassesOwn.never rfl (pi_list (pv 2)) (pg_tup rfl (pgs_cons (pg_name (i := 6) scOd.nd rfl (Or.inl rfl)) (pgs_cons (pg_name (i := 7) scOd.nd rfl (Or.inr rfl)) pgs_nil)))
        (pss_one (ps_expr (pe_bm PySem.F.plainAttrs_list PySem.F.slot_list_extend PySem.F.type_list_extend mt_extend (pv 5) (pa_cons (pe_lst (pa_cons (pe_tup (pa_cons (pv 6) (pa_cons (pv 7) pa_nil))) (pa_cons (pe_lst (pa_cons (pv 7) (pa_cons (pv 6) pa_nil))) pa_nil))) pa_nil) (by rfl) (by rfl)))))
      (pss_cons (ps_for PassesOwn.never rfl (pi_list (pe_cut (pe_ifExp (pt_cmpR op_eq (pe_callB call_len_seq (by rfl) T.len PySem.boot_len (pa_cons (pv 2) pa_nil)) (pe_op op_sub (pe_callB call_len_seq (by rfl) T.len PySem.boot_len (pa_cons (pv 1) pa_nil)) pe_int) (nomark _))
            (pe_slice sl_list (pv 1) po_none (po_some pe_int)) (pe_lst pa_nil)))) (pg_name (i := 7) scOd.nd rfl (Or.inr rfl))
        (pss_one (ps_expr (pe_bm PySem.F.plainAttrs_list PySem.F.slot_list_extend PySem.F.type_list_extend mt_extend (pv 5) (pa_cons
          (pe_lc (te := tTup (tCons (tVar 6) (tCons (tVar 7) tNil))) (own := [("one", 6)]) (g := gName 6) (tt := tTest (tOp rNe (tVar 6) (tVar 7))) rfl scOd.nd (pi_list (pv 1)) (blkOk_by (N := NOd) (sc := defScope s_law_odd_door) (by decide +kernel))
            (fun _ _ _ _ _ => pg_name (i := 6) scOd.nd rfl (Or.inl rfl)) (fun _ _ _ _ _ => by exact (pts_one (pt_cmpR op_ne (pv 6) (pv 7) (nomark _)))) (fun _ _ _ _ _ => by exact (pe_tup (pa_cons (pv 6) (pa_cons (pv 7) pa_nil))))) pa_nil) (by rfl) (by rfl)))))
      (pss_one (ps_ret (pe_call Gp hr (by rfl) mp kp bp .nil pass0 (pa_cons (pv 0) (pa_cons (pv 5) pa_nil))))))))), ?_⟩
    have l0 : (rs.map V.str).length = rs.length := List.length_map _
    have lpos : 0 < rs.length := List.length_pos_iff.mpr rne
    refine ⟨fun v H' => ∃ (G : Addr) (gx gy : Str), v = .ref G ∧ H G = none ∧ H' = upd H G (.lst [.str gx, .str gy]), ?_, ?_⟩
    · refine ⟨_, rfl, p, _, rfl, .inl (SqL.of hp), _, _, rfl, rfl, _, rfl, ?_⟩
      by_cases l1 : 1 < rs.length
      · refine iteT2 (decide_eq_true (by rw [l0]; omega)) ?_
        obtain ⟨rl, rz, erl⟩ : ∃ rl rz, rs = rl ++ [rz] := ⟨rs.dropLast, rs.getLast rne, (List.dropLast_concat_getLast rne).symm⟩
        refine ⟨_, rfl, p, _, 0, .str rs[0], rfl, rfl, SqL.of hp, atI_nat (j := 0) (by rw [List.getElem?_map, List.getElem?_eq_getElem lpos]; rfl), ?_⟩
        refine ⟨_, rfl, _, rfl, p, _, -1, .str rz, rfl, rfl, SqL.of hp, (by rw [erl, List.map_append]; exact atI_last _ _), ?_⟩
        exact ⟨(by show 2 ≤ sizeLine; decide), fun G nG => ⟨G, _, _, rfl, nG, rfl⟩⟩
      · exact iteF2 (decide_eq_false (by rw [l0]; omega)) ⟨by show 2 ≤ sizeLine; decide, fun G nG => ⟨G, "x", "y", rfl, nG, rfl⟩⟩
    rintro v H1 ⟨G, gx, gy, rfl, nG, rfl⟩
    have gH1 : Gr H (upd H G (.lst [.str gx, .str gy])) := Gr.upd nG
    have eG : upd H G (.lst [.str gx, .str gy]) G = some (.lst [.str gx, .str gy]) := upd_same
    generalize upd H G (.lst [.str gx, .str gy]) = H1 at gH1 eG
    refine ⟨_, rfl, ?_⟩
    refine ⟨(by show 1 ≤ sizeLine; decide), fun o1 no1 => ?_⟩
    have gH2 : Gr H1 (upd H1 o1 (.lst [.str "a"])) := Gr.upd no1
    have eo1 : upd H1 o1 (.lst [.str "a"]) o1 = some (.lst [.str "a"]) := upd_same
    generalize upd H1 o1 (.lst [.str "a"]) = H2 at gH2 eo1 ⊢
    refine ⟨(by show 1 ≤ sizeLine; decide), fun o2 no2 => ?_⟩
    have gH3 : Gr H2 (upd H2 o2 (.tup [.str "a"])) := Gr.upd no2
    have eo2 : upd H2 o2 (.tup [.str "a"]) o2 = some (.tup [.str "a"]) := upd_same
    generalize upd H2 o2 (.tup [.str "a"]) = H3 at gH3 eo2 ⊢
    refine fun o3 no3 => ?_
    have gH4 : Gr H3 (upd H3 o3 (.dK [])) := Gr.upd no3
    have eo3 : upd H3 o3 (.dK []) o3 = some (.dK []) := upd_same
    generalize upd H3 o3 (.dK []) = H4 at gH4 eo3 ⊢
    refine ⟨(by show 8 ≤ sizeLine; decide), fun o4 no4 => ?_⟩
    have gH5 : Gr H4 (upd H4 o4 (.lst [.non, .int 5, .str "never", .str "", .bl true, .ref o1, .ref o2, .ref o3])) := Gr.upd no4
    have eo4 : upd H4 o4 (.lst [.non, .int 5, .str "never", .str "", .bl true, .ref o1, .ref o2, .ref o3]) o4 = some (.lst [.non, .int 5, .str "never", .str "", .bl true, .ref o1, .ref o2, .ref o3]) := upd_same
    generalize upd H4 o4 (.lst [.non, .int 5, .str "never", .str "", .bl true, .ref o1, .ref o2, .ref o3]) = H5 at gH5 eo4 ⊢
    have g15 := (((gH1.trans gH2).trans gH3).trans gH4).trans gH5
    have pp : ∀ {q : Addr} {G : Hp}, G q = none → Gr H G → q ≠ a ∧ q ≠ l := fun h g => ⟨hS.na (g.n _ h), hS.nl (g.n _ h)⟩
    have aG := pp nG (Gr.refl H)
    have a1 := pp no1 gH1
    have a2 := pp no2 (gH1.trans gH2)
    have a3 := pp no3 ((gH1.trans gH2).trans gH3)
    have a4 := pp no4 (((gH1.trans gH2).trans gH3).trans gH4)
    refine ⟨a, l, o4, n, _, rfl, hS.stay g15.s, eo4, a4.1, a4.2, (by intro z; cases z), by omega, (by show 8 < 1000000; decide), fun H6 odd modd g6 s6 => ?_⟩
    have o5 : Odd a l H6 odd ∧ (∀ z, odd = .str z → z ∉ rs) := by
      simp only [List.mem_cons, List.not_mem_nil, or_false] at modd
      rcases modd with rfl | rfl | rfl | rfl | rfl | rfl | rfl | rfl
      · exact ⟨.inl (.inl rfl), fun z e => by cases e⟩
      · exact ⟨.inl (.inr (.inl ⟨_, rfl⟩)), fun z e => by cases e⟩
      · exact ⟨.inl (.inr (.inr (.inr ⟨_, rfl⟩))), fun z e m => (nok z m).2 (V.str.inj e).symm⟩
      · refine ⟨.inl (.inr (.inr (.inr ⟨_, rfl⟩))), fun z e m => ?_⟩
        have h := (nok z m).1
        rw [← V.str.inj e] at h
        exact absurd h (by decide +kernel)
      · exact ⟨.inl (.inr (.inr (.inl ⟨_, rfl⟩))), fun z e => by cases e⟩
      · exact ⟨Odd.gs (.inr ⟨o1, rfl, a1.1, a1.2, .inl ⟨_, ((gH3.trans gH4).trans gH5).s _ _ eo1⟩⟩) g6, fun z e => by cases e⟩
      · exact ⟨Odd.gs (.inr ⟨o2, rfl, a2.1, a2.2, .inr (.inl ⟨_, (gH4.trans gH5).s _ _ eo2⟩)⟩) g6, fun z e => by cases e⟩
      · exact ⟨Odd.gs (.inr ⟨o3, rfl, a3.1, a3.2, .inr (.inr ⟨_, gH5.s _ _ eo3⟩)⟩) g6, fun z e => by cases e⟩
    have eG6 : H6 G = some (.lst [.str gx, .str gy]) := g6.s _ _ ((((gH2.trans gH3).trans gH4).trans gH5).s _ _ eG) aG.1 fun z => absurd z aG.2
    have hp6 := (g15.gs.trans g6).keep hS hp (ok_strs _)
    clear eo1 eo2 eo3 eo4 modd gH1 gH2 gH3 gH4 gH5 eG
    refine ⟨(by show 0 ≤ sizeLine; decide), fun b1 nb1 => ?_⟩
    have gJ1 : Gr H6 (upd H6 b1 (.lst [])) := Gr.upd nb1
    have eb1 : upd H6 b1 (.lst []) b1 = some (.lst []) := upd_same
    generalize upd H6 b1 (.lst []) = J1 at gJ1 eb1 ⊢
    refine ⟨(by show 0 ≤ sizeLine; decide), fun b2 nb2 => ?_⟩
    have gJ2 : Gr J1 (upd J1 b2 (.tup [])) := Gr.upd nb2
    have eb2 : upd J1 b2 (.tup []) b2 = some (.tup []) := upd_same
    generalize upd J1 b2 (.tup []) = J2 at gJ2 eb2 ⊢
    have hG2 : J2 G = some (.lst [.str gx, .str gy]) := (gJ1.trans gJ2).s _ _ eG6
    refine ⟨_, rfl, _, rfl, G, _, rfl, SqL.of hG2, fun b3 nb3 => ?_⟩
    rw [show cutV [V.str gx, V.str gy] none (some (1 : Int)) = [V.str gx] from rfl]
    have gJ3 : Gr J2 (upd J2 b3 (.lst [.str gx])) := Gr.upd nb3
    have eb3 : upd J2 b3 (.lst [.str gx]) b3 = some (.lst [.str gx]) := upd_same
    generalize upd J2 b3 (.lst [.str gx]) = J3 at gJ3 eb3 ⊢
    refine ⟨_, rfl, _, rfl, _, rfl, G, _, rfl, SqL.of (gJ3.s _ _ hG2), fun b4 nb4 => ?_⟩
    rw [show cutV [V.str gx, V.str gy] none (some (1 : Int)) = [V.str gx] from rfl]
    have gJ4 : Gr J3 (upd J3 b4 (.lst [.str gx])) := Gr.upd nb4
    have eb4 : upd J3 b4 (.lst [.str gx]) b4 = some (.lst [.str gx]) := upd_same
    generalize upd J3 b4 (.lst [.str gx]) = J4 at gJ4 eb4 ⊢
    refine ⟨G, b4, _, _, rfl, rfl, (gJ3.trans gJ4).s _ _ hG2, eb4, (by show 3 ≤ sizeLine; decide), fun b5 nb5 => ?_⟩
    have gJ5 : Gr J4 (upd J4 b5 (.lst [.str gx, .str gy, .str gx])) := Gr.upd nb5
    have eb5 : upd J4 b5 (.lst [.str gx, .str gy, .str gx]) b5 = some (.lst [.str gx, .str gy, .str gx]) := upd_same
    rw [show [V.str gx, V.str gy] ++ [V.str gx] = [V.str gx, V.str gy, V.str gx] from rfl]
    generalize upd J4 b5 (.lst [.str gx, .str gy, .str gx]) = J5 at gJ5 eb5 ⊢
    refine fun b6 nb6 => ?_
    have gJ6 : Gr J5 (upd J5 b6 (.dK [])) := Gr.upd nb6
    have eb6 : upd J5 b6 (.dK []) b6 = some (.dK []) := upd_same
    generalize upd J5 b6 (.dK []) = J6 at gJ6 eb6 ⊢
    have hG6 : J6 G = some (.lst [.str gx, .str gy]) := (((gJ3.trans gJ4).trans gJ5).trans gJ6).s _ _ hG2
    refine ⟨_, rfl, _, rfl, G, _, 1, .str gy, rfl, rfl, SqL.of hG6, rfl, ?_⟩
    refine ⟨(by show 2 ≤ sizeLine; decide), fun b7 nb7 => ?_⟩
    have gJ7 : Gr J6 (upd J6 b7 (.lst [odd, .str gy])) := Gr.upd nb7
    have eb7 : upd J6 b7 (.lst [odd, .str gy]) b7 = some (.lst [odd, .str gy]) := upd_same
    generalize upd J6 b7 (.lst [odd, .str gy]) = J7 at gJ7 eb7 ⊢
    refine ⟨_, rfl, G, _, 0, .str gx, rfl, rfl, SqL.of (gJ7.s _ _ hG6), rfl, _, rfl, ?_⟩
    refine ⟨(by show 2 ≤ sizeLine; decide), fun b8 nb8 => ?_⟩
    have gJ8 : Gr J7 (upd J7 b8 (.tup [.str gx, odd])) := Gr.upd nb8
    have eb8 : upd J7 b8 (.tup [.str gx, odd]) b8 = some (.tup [.str gx, odd]) := upd_same
    generalize upd J7 b8 (.tup [.str gx, odd]) = J8 at gJ8 eb8 ⊢
    have hp8 := ((((((((gJ1.trans gJ2).trans gJ3).trans gJ4).trans gJ5).trans gJ6).trans gJ7).trans gJ8)).s _ _ hp6
    obtain ⟨r0, rt, ers⟩ : ∃ r0 rt, rs = r0 :: rt := by
      cases rs with
      | nil => exact absurd rfl rne
      | cons r0 rt => exact ⟨r0, rt, rfl⟩
    refine ⟨_, rfl, _, rfl, p, _, rfl, SqL.of hp8, fun b9 nb9 => ?_⟩
    rw [show cutV (rs.map V.str) none (some (1 : Int)) = [V.str r0] by rw [ers]; rfl]
    have gJ9 : Gr J8 (upd J8 b9 (.lst [.str r0])) := Gr.upd nb9
    have eb9 : upd J8 b9 (.lst [.str r0]) b9 = some (.lst [.str r0]) := upd_same
    generalize upd J8 b9 (.lst [.str r0]) = J9 at gJ9 eb9 ⊢
    refine ⟨b9, 2, _, rfl, rfl, eb9, by decide, by decide, (by show 1 * 2 ≤ sizeLine; decide), fun b10 nb10 => ?_⟩
    rw [show (List.replicate (2 : Int).toNat [V.str r0]).flatten = [V.str r0, V.str r0] from rfl]
    have gJ10 : Gr J9 (upd J9 b10 (.lst [.str r0, .str r0])) := Gr.upd nb10
    have eb10 : upd J9 b10 (.lst [.str r0, .str r0]) b10 = some (.lst [.str r0, .str r0]) := upd_same
    generalize upd J9 b10 (.lst [.str r0, .str r0]) = J10 at gJ10 eb10 ⊢
    refine ⟨(by show 12 ≤ sizeLine; decide), fun L nL => ?_⟩
    have gJ11 : Gr J10 (upd J10 L (.lst [.non, .int 5, .str "door", .ref b1, .ref b2, .ref b3, .ref b5, .ref b6, .ref b7, .ref b8, .str "ab", .ref b10])) := Gr.upd nL
    have eL : upd J10 L (.lst [.non, .int 5, .str "door", .ref b1, .ref b2, .ref b3, .ref b5, .ref b6, .ref b7, .ref b8, .str "ab", .ref b10]) L = some (.lst [.non, .int 5, .str "door", .ref b1, .ref b2, .ref b3, .ref b5, .ref b6, .ref b7, .ref b8, .str "ab", .ref b10]) := upd_same
    generalize upd J10 L (.lst [.non, .int 5, .str "door", .ref b1, .ref b2, .ref b3, .ref b5, .ref b6, .ref b7, .ref b8, .str "ab", .ref b10]) = J11 at gJ11 eL ⊢
    have h10 : Gr J10 J11 := gJ11
    have h9 : Gr J9 J11 := gJ10.trans h10
    have h8 : Gr J8 J11 := gJ9.trans h9
    have h7 : Gr J7 J11 := gJ8.trans h8
    have h6 : Gr J6 J11 := gJ7.trans h7
    have h5 : Gr J5 J11 := gJ6.trans h6
    have h4 : Gr J4 J11 := gJ5.trans h5
    have h3 : Gr J3 J11 := gJ4.trans h4
    have h2 : Gr J2 J11 := gJ3.trans h3
    have h1 : Gr J1 J11 := gJ2.trans h2
    have h0 : Gr H6 J11 := gJ1.trans h1
    have k1 : Gr H6 J1 := gJ1
    have k2 : Gr H6 J2 := k1.trans gJ2
    have k3 : Gr H6 J3 := k2.trans gJ3
    have k4 : Gr H6 J4 := k3.trans gJ4
    have k5 : Gr H6 J5 := k4.trans gJ5
    have k6 : Gr H6 J6 := k5.trans gJ6
    have k7 : Gr H6 J7 := k6.trans gJ7
    have k8 : Gr H6 J8 := k7.trans gJ8
    have k9 : Gr H6 J9 := k8.trans gJ9
    have k10 : Gr H6 J10 := k9.trans gJ10
    have nw : ∀ {q : Addr} {G : Hp}, G q = none → Gr H6 G → q ≠ a ∧ q ≠ l := fun h g => ⟨s6.na (g.n _ h), s6.nl (g.n _ h)⟩
    have neL : ∀ {q : Addr} {o : HO}, J10 q = some o → q ≠ L := fun e => ne_of_none e nL
    have aL := nw nL k10
    have od : ∀ G : Hp, (∀ b o, b ≠ L → J11 b = some o → G b = some o) → Odd a l G odd := fun G hG => o5.1.mono fun b o e => hG b o (neL (k10.s _ _ e)) (h0.s _ _ e)
    have st : ∀ (G : Hp) (z : Str), Odd a l G (.str z) := fun G z => .inl (.inr (.inr (.inr ⟨z, rfl⟩)))
    have items : ∀ v ∈ [V.non, .int 5, .str "door", .ref b1, .ref b2, .ref b3, .ref b5, .ref b6, .ref b7, .ref b8, .str "ab", .ref b10], OddX a l rs es L J11 v := fun v mv => by
      simp only [List.mem_cons, List.not_mem_nil, or_false] at mv
      rcases mv with rfl | rfl | rfl | rfl | rfl | rfl | rfl | rfl | rfl | rfl | rfl | rfl
      · exact OddX.sc (.inl rfl)
      · exact OddX.sc (.inr (.inl ⟨_, rfl⟩))
      · exact OddX.sc (.inr (.inr (.inr ⟨_, rfl⟩)))
      · exact OddX.no (.inl (h1.s _ _ eb1)) (neL ((((((((((gJ2.trans gJ3).trans gJ4).trans gJ5).trans gJ6).trans gJ7).trans gJ8).trans gJ9).trans gJ10)).s _ _ eb1)) (nw nb1 (Gr.refl _)).1 (nw nb1 (Gr.refl _)).2 (fun G _ u hu => by cases hu) fun x y e => by cases e
      · exact OddX.no (.inr (h2.s _ _ eb2)) (neL (((((((((gJ3.trans gJ4).trans gJ5).trans gJ6).trans gJ7).trans gJ8).trans gJ9).trans gJ10)).s _ _ eb2)) (nw nb2 k1).1 (nw nb2 k1).2 (fun G _ u hu => by cases hu) fun x y e => by cases e
      · exact OddX.no (.inl (h3.s _ _ eb3)) (neL ((((((((gJ4.trans gJ5).trans gJ6).trans gJ7).trans gJ8).trans gJ9).trans gJ10)).s _ _ eb3)) (nw nb3 k2).1 (nw nb3 k2).2 (fun G _ u hu => by rw [List.mem_singleton.mp hu]; exact st _ _) fun x y e => by cases e
      · exact OddX.no (.inl (h5.s _ _ eb5)) (neL ((((((gJ6.trans gJ7).trans gJ8).trans gJ9).trans gJ10)).s _ _ eb5)) (nw nb5 k4).1 (nw nb5 k4).2 (fun G _ u hu => by
          simp only [List.mem_cons, List.not_mem_nil, or_false] at hu
          rcases hu with rfl | rfl | rfl
          all_goals exact st _ _) fun x y e => by cases e
      · exact OddX.dk (h6.s _ _ eb6) (neL (((((gJ7.trans gJ8).trans gJ9).trans gJ10)).s _ _ eb6)) (nw nb6 k5).1 (nw nb6 k5).2
      · exact OddX.no (.inl (h7.s _ _ eb7)) (neL ((((gJ8.trans gJ9).trans gJ10)).s _ _ eb7)) (nw nb7 k6).1 (nw nb7 k6).2 (fun G hG u hu => by
          rcases List.mem_cons.mp hu with rfl | hu
          · exact od G hG
          · rw [List.mem_singleton.mp hu]
            exact st _ _) fun x y e mx _ => absurd mx (o5.2 x (List.cons.inj e).1)
      · exact OddX.no (.inr (h8.s _ _ eb8)) (neL ((gJ9.trans gJ10).s _ _ eb8)) (nw nb8 k7).1 (nw nb8 k7).2 (fun G hG u hu => by
          rcases List.mem_cons.mp hu with rfl | hu
          · exact st _ _
          · rw [List.mem_singleton.mp hu]
            exact od G hG) fun x y e _ my => absurd my (o5.2 y (List.cons.inj (List.cons.inj e).2).1)
      · exact OddX.sc (.inr (.inr (.inr ⟨_, rfl⟩)))
      · exact OddX.no (.inl (h10.s _ _ eb10)) (neL eb10) (nw nb10 k9).1 (nw nb10 k9).2 (fun G hG u hu => by
          simp only [List.mem_cons, List.not_mem_nil, or_false] at hu
          rcases hu with rfl | rfl
          all_goals exact st _ _) fun x y e _ _ => by
            have e1 := V.str.inj (List.cons.inj e).1
            have e2 := V.str.inj (List.cons.inj (List.cons.inj e).2).1
            rw [← e1, ← e2]
    have s11 : Spr J11 a l (n + 1) := s6.stay h0.s
    have gH11 : Gs a l H J11 := (g15.gs.trans g6).trans h0.gs
    have hpE := gH11.keep hS hp (ok_strs _)
    have hqE := gH11.keep hS hq (ok_refs _)
    have htE := TupsAt.gs ht hS gH11
    clear eb1 eb2 eb3 eb4 eb5 eb6 eb7 eb8 eb9 eb10 hG2 hG6 od st
    refine ⟨_, rfl, q, rfl, ⟨_, SqL.of hqE⟩, ?_⟩
    have lts : ts.length = es.length := paired_len ht
    have aL' := aL
    have pL : p ≠ L := neL ((k10.s _ _ hp6))
    have hq6 := (g15.gs.trans g6).keep hS hq (ok_refs _)
    have qL : q ≠ L := neL ((k10.s _ _ hq6))
    have tL : ∀ {t : Addr} {e : Ed}, J11 t = some (.tup [.str e.1, .str e.2]) → t ≠ L := fun h => ne_of h eL (by intro z; cases z)
    have new : ∀ {T : Addr} {G : Hp}, G T = none → Gx L J11 G → T ≠ a ∧ T ≠ l := fun h g => ⟨s11.na (g.n _ h), s11.nl (g.n _ h)⟩
    refine for_it (walk_list (xs := ts.map V.ref)) (fun i σ' H' => ∃ (v6 v7 : Option V) (xs : List V), σ' = [some (.ref a), some (.ref p), some (.ref q), some (.ref G), some odd, some (.ref L), v6, v7] ∧ H' L = some (.lst xs) ∧ xs ≠ [] ∧ xs.length ≤ 12 + 2 * i ∧ (∀ v ∈ xs, OddX a l rs es L H' v) ∧ Gx L J11 H') ?_ ?_ ?_ ?_
    · exact ⟨_, _, _, rfl, eL, (by intro z; cases z), by show 12 ≤ 12 + 2 * 0; omega, items, ⟨fun b o e _ => e, fun b z => z⟩⟩
    · rintro i σ' H' _ ⟨v6, v7, xs, rfl, q1, q2, q3, q4, q5⟩
      exact SqL.of (q5.s _ _ hqE qL)
    · rintro i v σ' H' H'' hi ⟨v6, v7, xs, rfl, q1, q2, q3, q4, q5⟩ ⟨rfl, hv⟩
      rw [List.getElem?_map] at hv
      obtain ⟨t, et, rfl⟩ := Option.map_eq_some_iff.mp hv
      obtain ⟨e, ee, te⟩ := paired_at htE et
      have me := List.mem_of_getElem? ee
      have te' := q5.s _ _ te (tL te)
      have li : i < es.length := by
        rw [List.length_map, lts] at hi
        exact hi
      refine ⟨t, _, rfl, SqT.of te', rfl, _, _, rfl, _, _, rfl, rfl, ?_⟩
      refine ⟨_, rfl, .inl ⟨rfl, _, SqL.of q1⟩, _, rfl, _, rfl, (by show 2 ≤ sizeLine; decide), fun T1 nT1 => ?_⟩
      have g1 : Gr H'' (upd H'' T1 (.tup [.str e.1, .str e.2])) := Gr.upd nT1
      have e1 : upd H'' T1 (.tup [.str e.1, .str e.2]) T1 = some (.tup [.str e.1, .str e.2]) := upd_same
      generalize upd H'' T1 (.tup [.str e.1, .str e.2]) = M1 at g1 e1 ⊢
      refine ⟨_, rfl, _, rfl, (by show 2 ≤ sizeLine; decide), fun T2 nT2 => ?_⟩
      have g2 : Gr M1 (upd M1 T2 (.lst [.str e.2, .str e.1])) := Gr.upd nT2
      have e2 : upd M1 T2 (.lst [.str e.2, .str e.1]) T2 = some (.lst [.str e.2, .str e.1]) := upd_same
      generalize upd M1 T2 (.lst [.str e.2, .str e.1]) = M2 at g2 e2 ⊢
      refine ⟨(by show 2 ≤ sizeLine; decide), fun T3 nT3 => ?_⟩
      have g3 : Gr M2 (upd M2 T3 (.lst [.ref T1, .ref T2])) := Gr.upd nT3
      have e3 : upd M2 T3 (.lst [.ref T1, .ref T2]) T3 = some (.lst [.ref T1, .ref T2]) := upd_same
      generalize upd M2 T3 (.lst [.ref T1, .ref T2]) = M3 at g3 e3 ⊢
      have g13 := (g1.trans g2).trans g3
      have L3 := g13.s _ _ q1
      refine ⟨L, T3, xs, _, rfl, rfl, L3, e3, ?_, ?_⟩
      · show xs.length + 2 ≤ sizeLine
        exact Nat.le_trans (show xs.length + 2 ≤ 100 by omega) (by decide)
      have gx : Gx L J11 (upd M3 L (.lst (xs ++ [.ref T1, .ref T2]))) := (q5.trans (Gx.of g13)).trans Gx.upd
      refine ⟨_, _, _, rfl, upd_same, fun z => q2 (List.append_eq_nil_iff.mp z).1, ?_, fun v mv => ?_, gx⟩
      · rw [List.length_append]
        show xs.length + 2 ≤ _
        omega
      obtain ⟨m1, m2, ne⟩ := ends e me
      rcases List.mem_append.mp mv with mv | mv
      · exact (q4 v mv).up fun b o n h => by
          rw [upd_ne n]
          exact g13.s _ _ h
      · have n1 := new nT1 q5
        have n2 := new nT2 (q5.trans (Gx.of g1))
        have L1 : T1 ≠ L := fun z => by
          rw [z, q1] at nT1
          cases nT1
        have L2 : T2 ≠ L := fun z => by
          rw [z, g1.s _ _ q1] at nT2
          cases nT2
        rcases List.mem_cons.mp mv with rfl | mv
        · exact OddX.yes (.inr (by rw [upd_ne L1]; exact (g2.trans g3).s _ _ e1)) L1 n1.1 n1.2 m1 m2 ne (.fwd (.refl _) me)
        · rw [List.mem_singleton.mp mv]
          exact OddX.yes (.inl (by rw [upd_ne L2]; exact g3.s _ _ e2)) L2 n2.1 n2.2 m2 m1 ne.symm (.bwd (.refl _) me)
    rintro σ' H7 ⟨v6, v7, xs0, rfl, c1, c2, c3, c4, c5⟩
    rw [List.length_map, lts] at c3
    have hp7 := c5.s _ _ hpE pL
    have hq7 := c5.s _ _ hqE qL
    refine ⟨fun v H' => ∃ (U : Addr) (os : List Str), v = .ref U ∧ H' U = some (.lst (os.map V.str)) ∧ U ≠ L ∧ os.length ≤ 2 ∧ (∀ o ∈ os, o ∈ rs) ∧ (os ≠ [] → es.length + 1 = rs.length) ∧ Gr H7 H', ?_, ?_⟩
    · refine ⟨_, rfl, q, _, rfl, .inl (SqL.of hq7), _, rfl, p, _, rfl, .inl (SqL.of hp7), _, _, rfl, rfl, rfl, _, rfl, ?_⟩
      by_cases c : es.length + 1 = rs.length
      · refine iteT2 (decide_eq_true (congrArg V.int (by rw [l0, List.length_map, lts]; omega))) ?_
        refine ⟨_, rfl, _, rfl, p, _, rfl, SqL.of hp7, fun U nU => ⟨U, rs.take 2, rfl, ?_, fun z => ?_, ?_, fun o m => List.mem_of_mem_take m, fun _ => c, Gr.upd nU⟩⟩
        · rw [upd_same]
          have e : cutV (rs.map V.str) none (some (2 : Int)) = (rs.take 2).map V.str := by
            unfold cutV
            rw [show (2 : Int) = ((2 : Nat) : Int) from rfl, HT.sIx_nat, HT.sIx_none, List.drop_zero, Nat.sub_zero, ← List.take_eq_take_min, List.map_take]
          rw [e]
        · rw [z, c1] at nU
          cases nU
        · rw [List.length_take]
          omega
      · refine iteF2 (decide_eq_false fun z => c (by have := V.int.inj z; rw [l0, List.length_map, lts] at this; omega)) ?_
        refine ⟨by show 0 ≤ sizeLine; decide, fun U nU => ⟨U, [], rfl, upd_same, fun z => ?_, by decide, fun o m => (by cases m), fun z => absurd rfl z, Gr.upd nU⟩⟩
        rw [z, c1] at nU
        cases nU
    rintro v H8 ⟨U, os, rfl, eU, UL, lo, mo, fo, g8⟩
    refine ⟨U, rfl, ⟨_, SqL.of eU⟩, ?_⟩
    have x8 : Gx L J11 H8 := c5.trans (Gx.of g8)
    have hp8 := g8.s _ _ hp7
    refine for_it (walk_list (xs := os.map V.str)) (fun i σ' H' => ∃ (v6 v7 : Option V) (xs : List V), σ' = [some (.ref a), some (.ref p), some (.ref q), some (.ref G), some odd, some (.ref L), v6, v7] ∧ H' L = some (.lst xs) ∧ xs ≠ [] ∧ xs.length ≤ 100 + 12 * i ∧ (∀ v ∈ xs, OddX a l rs es L H' v) ∧ Gx L H8 H') ?_ ?_ ?_ ?_
    · exact ⟨_, _, _, rfl, g8.s _ _ c1, c2, by omega, fun v mv => (c4 v mv).up fun b o _ h => g8.s _ _ h, ⟨fun b o e _ => e, fun b z => z⟩⟩
    · rintro i σ' H' _ ⟨v6, v7, xs, rfl, q1, q2, q3, q4, q5⟩
      exact SqL.of (q5.s _ _ eU UL)
    · rintro i v σ' H' H'' hi ⟨v6, v7, xs, rfl, q1, q2, q3, q4, q5⟩ ⟨rfl, hv⟩
      rw [List.getElem?_map] at hv
      obtain ⟨o, eo, rfl⟩ := Option.map_eq_some_iff.mp hv
      have mo' := mo o (List.mem_of_getElem? eo)
      have all := full (fo fun z => by rw [z] at eo; cases eo)
      have hp9 := q5.s _ _ hp8 pL
      have li : i < 2 := by
        rw [List.length_map] at hi
        omega
      refine ⟨_, rfl, .inl ⟨rfl, _, SqL.of q1⟩, _, rfl, p, rfl, ⟨_, SqL.of hp9⟩, fun D hD => ?_⟩
      refine lc_it (walk_list (xs := rs.map V.str)) (fun j H' => ∃ us : List Addr, H' D = some (.lst (us.map V.ref)) ∧ us.length ≤ j ∧ Gr H'' H' ∧ ∀ u ∈ us, ∃ x, H' u = some (.tup [.str x, .str o]) ∧ x ∈ rs ∧ x ≠ o ∧ H'' u = none) ⟨[], upd_same, Nat.le_refl _, Gr.upd hD, fun u hu => by cases hu⟩ (fun j H' _ ⟨us, w1, w2, w3, w4⟩ => SqL.of (w3.s _ _ hp9)) ?_ ?_
      · rintro j v J' J'' hj ⟨us, w1, w2, w3, w4⟩ ⟨rfl, hv⟩
        rw [List.getElem?_map] at hv
        obtain ⟨x, ex, rfl⟩ := Option.map_eq_some_iff.mp hv
        have mx := List.mem_of_getElem? ex
        refine ⟨rfl, _, rfl, _, rfl, rfl, _, rfl, ?_⟩
        by_cases c : x = o
        · exact iteF2 (by rw [c, decide_eq_true rfl]; rfl) ⟨us, w1, by omega, w3, w4⟩
        · refine iteT2 (by rw [decide_eq_false fun z => c (V.str.inj z)]; rfl) ?_
          refine ⟨_, rfl, _, rfl, by show 2 ≤ sizeLine; decide, fun T nT => ?_⟩
          have gT : Gr J'' (upd J'' T (.tup [.str x, .str o])) := Gr.upd nT
          have eT : upd J'' T (.tup [.str x, .str o]) T = some (.tup [.str x, .str o]) := upd_same
          generalize upd J'' T (.tup [.str x, .str o]) = M at gT eT ⊢
          have eD := gT.s _ _ w1
          have lj : j < 12 := by
            rw [l0] at hj
            omega
          refine ⟨_, eD, ?_, us ++ [T], ?_, ?_, (w3.trans gT).put hD, fun u hu => ?_⟩
          · rw [List.length_map]
            exact Nat.lt_of_le_of_lt w2 (Nat.lt_trans lj (by decide))
          · rw [upd_same, List.map_append]
            rfl
          · rw [List.length_append]
            show us.length + 1 ≤ j + 1
            omega
          · rcases List.mem_append.mp hu with hu | hu
            · obtain ⟨y, h1, h2, h3, h4⟩ := w4 u hu
              have uD : u ≠ D := ne_of h1 w1 (by intro z; cases z)
              exact ⟨y, by rw [upd_ne uD]; exact gT.s _ _ h1, h2, h3, h4⟩
            · rw [List.mem_singleton.mp hu]
              have uD : T ≠ D := ne_of eT eD (by intro z; cases z)
              exact ⟨x, by rw [upd_ne uD]; exact eT, mx, c, w3.n _ nT⟩
      · rintro J' ⟨us, w1, w2, w3, w4⟩
        have L3 := w3.s _ _ q1
        rw [l0] at w2
        refine ⟨L, D, xs, _, rfl, rfl, L3, w1, ?_, ?_⟩
        · rw [List.length_map]
          exact Nat.le_trans (show xs.length + us.length ≤ 200 by omega) (by decide)
        refine ⟨_, _, _, rfl, upd_same, fun z => q2 (List.append_eq_nil_iff.mp z).1, ?_, fun v mv => ?_, (q5.trans (Gx.of w3)).trans Gx.upd⟩
        · rw [List.length_append, List.length_map]
          omega
        rcases List.mem_append.mp mv with mv | mv
        · exact (q4 v mv).up fun b o n h => by
            rw [upd_ne n]
            exact w3.s _ _ h
        · obtain ⟨u, mu, rfl⟩ := List.mem_map.mp mv
          obtain ⟨x, h1, h2, h3, h4⟩ := w4 u mu
          have n1 := new h4 (x8.trans q5)
          have L1 : u ≠ L := fun z => by
            rw [z, q1] at h4
            cases h4
          exact OddX.yes (.inr (by rw [upd_ne L1]; exact h1)) L1 n1.1 n1.2 h2 mo' h3 (all x h2 o mo')
    · rintro σ' H9 ⟨v6, v7, xs, rfl, q1, q2, q3, q4, q5⟩
      have x9 : Gx L J11 H9 := x8.trans q5
      have HL : H L = none := g15.n _ (g6.n _ (k10.n _ nL))
      have s9 : Spr H9 a l (n + 1) := by
        obtain ⟨ne, cs, cur, mix, h1, h2, h3, h4⟩ := s11
        exact ⟨ne, cs, cur, mix, x9.s _ _ h1 aL.1.symm, x9.s _ _ h2 aL.2.symm, h3, h4⟩
      have gs9 : Gs a l H H9 := ⟨fun b o h n1 n2 => x9.s _ _ (gH11.s b o h n1 n2) (ne_of_none h HL), fun b z => gH11.n _ (x9.n _ z)⟩
      refine ⟨_, rfl, _, rfl, a, l, L, n + 1, xs, rfl, s9, q1, aL.1.symm.symm, aL.2, q2, by omega, by rw [List.length_map] at q3; omega, fun H' v mv g s' => ?_⟩
      exact k H' v (((q4 v mv) H9 fun b o _ h => h).gs g) (gs9.trans g) s'
end
end Lamp
set_option maxHeartbeats 1000000
namespace Lamp
open PySem PySem.Spec PyProof.Rows L2
/-! ### need_room, beside of anything -/
section
variable {P : Program} {w : World} {K : PySem.W.Frag} {mg : Str → Option Value} {base : Heap} {C CM : Addr}
/-- no room -/
def NoRm (K : PySem.W.Frag) (H : Hp) (rs : List Str) (v : V) : Prop := (∃ z, v = .str z ∧ z ∉ rs) ∨ ∃ t, (∀ H', Same H H' → TyX K H' v t) ∧ PySem.W.kitOne K t (.type "str") = some false
def spNeedR (K : PySem.W.Frag) (C CM : Addr) : Sp := fun vs H Q E => ∃ (h : Addr) (v : V) (rs : List Str) (ds : List Ed), vs = [.ref h, v] ∧ HouseAt H C h rs ds ∧ ((∃ z, v = .str z ∧ z ∈ rs ∧ Q .non H) ∨
  (NoRm K H rs v ∧ ∀ H' d, Gr H H' → H d = none → H' d = some (.xd [(("thing" : Str), v)]) → E (.ref CM) (some d) H'))
theorem scNdR : FnScope ["house", "thing"] ["house", "thing"] (defScope s_need_room) := ⟨rfl, rfl, rfl, by decide +kernel, rfl, by decide +kernel, by decide +kernel⟩
theorem ok_needR {f : Addr} {fd : FuncData} (F : Fun K "need_room" "need_room" s_need_room f fd) (M : HasH P w K mg base C) (MA : HasAny P w K mg base C) (R : ErrI P w K mg base "NoRoom" "thing" CM) :
    FnOk P w K mg base (L2.CX P w) 3 f fd ["house", "thing"] (spNeedR K C CM) := by
  obtain ⟨fa, da, ma, Ga, ba⟩ := MA
  obtain ⟨fI, dI, iC, tI, GI, bI⟩ := R.ini
  refine F.okX scNdR (fun vs H Q E h => ?_) (fun cdv A outer s H vs Q E hr h => ?_)
  · obtain ⟨h, x, rs, ds, rfl, _⟩ := h
    rfl
  · obtain ⟨h, v, rs, ds, rfl, hh, k⟩ := h
    refine ⟨_, pss_one (ps_if (pt_not (pt_val (pe_meth (pv 0) M.cls.cls ma Ga (hr.mono (by decide)) ba .nil pass0 (pa_cons (pv 1) pa_nil)))) (pss_one (ps_raise rfl (takes_of rfl rfl rfl rfl) (pmk_oex R.oe iC tI GI (hr.mono (by decide)) bI .nil pass0 (by rfl) R.gC (pa_cons (pv 1) pa_nil)))) pss_nil), ?_⟩
    have a' := hh
    obtain ⟨dx, ra, da', na, ts, h1, _⟩ := a'.at_
    refine ⟨_, rfl, h, dx, _, rfl, h1, by rfl, ?_⟩
    rcases k with ⟨z, rfl, hz, k⟩ | ⟨nr, k⟩
    · exact ⟨_, rfl, h, _, rs, ds, rfl, hh, .inl ⟨z, rfl, _, rfl, iteF2 (by rw [decide_eq_true hz]; rfl) k⟩⟩
    · rcases nr with ⟨z, rfl, hz⟩ | ⟨t, ty, kt⟩
      · refine ⟨_, rfl, h, _, rs, ds, rfl, hh, .inl ⟨z, rfl, _, rfl, iteT2 (by rw [decide_eq_false hz]; rfl) ?_⟩⟩
        refine ⟨_, rfl, (by show 1 ≤ 1000; decide), fun a na => ⟨a, CM, _, rfl, R.oe, R.nF, upd_same, fun d nd ne => ⟨rfl, d, [(("thing" : Str), .str z)], upd_same, ?_, ?_, ?_⟩⟩⟩
        · rw [upd_ne ne, upd_same]
        · rw [upd_ne ne] at nd
          exact nd
        · rw [upd_ne ne] at nd
          exact k _ d (made_gr na nd ne) nd upd_same
      · refine ⟨_, rfl, h, v, rs, ds, rfl, hh, .inr ⟨t, ty H (fun _ _ e => e), kt, _, rfl, iteT2 rfl ?_⟩⟩
        refine ⟨_, rfl, (by show 1 ≤ 1000; decide), fun a na => ⟨a, CM, _, rfl, R.oe, R.nF, upd_same, fun d nd ne => ⟨rfl, d, [(("thing" : Str), v)], upd_same, ?_, ?_, ?_⟩⟩⟩
        · rw [upd_ne ne, upd_same]
        · rw [upd_ne ne] at nd
          exact nd
        · rw [upd_ne ne] at nd
          exact k _ d (made_gr na nd ne) nd upd_same
/-! ### beside -/
def spBesR (K : PySem.W.Frag) (C CM : Addr) : Sp := fun vs H Q E => ∃ (h : Addr) (v : V) (rs : List Str) (ds : List Ed), vs = [.ref h, v] ∧ HouseAt H C h rs ds ∧ ((∃ z, v = .str z ∧ z ∈ rs ∧ ∀ H' p, H' p = some (.lst ((nearOf ds z).map V.str)) → Gr H H' → H p = none → Q (.ref p) H') ∨
  (NoRm K H rs v ∧ ∀ H' d, Gr H H' → H d = none → H' d = some (.xd [(("thing" : Str), v)]) → E (.ref CM) (some d) H'))
theorem scBsd : FnScope ["house", "room"] ["house", "room"] (defScope s_beside) := ⟨rfl, rfl, rfl, by decide +kernel, rfl, by decide +kernel, by decide +kernel⟩
theorem ok_besR {f : Addr} {fd : FuncData} (F : Fun K "beside" "beside" s_beside f fd) (M : HasH P w K mg base C) (NO : StandsX P w K mg base 3 "need_room" ["house", "thing"] (spNeedR K C CM)) : FnOk P w K mg base (L2.CX P w) 4 f fd ["house", "room"] (spBesR K C CM) := by
  obtain ⟨fn, dn, mn, Gn, bn⟩ := M.near
  obtain ⟨fo, do_, Go, mo, ko, bo⟩ := NO
  refine F.okX scBsd (fun vs H Q E h => ?_) (fun cdv A outer s H vs Q E hr h => ?_)
  · obtain ⟨h, x, rs, ds, rfl, _⟩ := h
    rfl
  · obtain ⟨h, v, rs, ds, rfl, hh, k⟩ := h
    refine ⟨_, pss_cons (ps_expr (pe_call Go hr (by rfl) mo ko bo .nil (passes_call (takes_of rfl rfl rfl rfl) fun _ _ _ _ z => z) (pa_cons (pv 0) (pa_cons (pv 1) pa_nil))))
      (pss_one (ps_ret (pe_meth (pv 0) M.cls.cls mn Gn (hr.mono (by decide)) bn .nil pass0 (pa_cons (pv 1) pa_nil)))), ?_⟩
    have a' := hh
    obtain ⟨dx, ra, da', na, ts, h1, _⟩ := a'.at_
    rcases k with ⟨z, rfl, hz, k⟩ | ⟨nr, k⟩
    · refine ⟨_, rfl, _, rfl, h, _, rs, ds, rfl, hh, .inl ⟨z, rfl, hz, ?_⟩⟩
      exact ⟨_, rfl, h, dx, _, rfl, h1, by rfl, _, rfl, h, z, rs, ds, rfl, hh, hz, fun H' p s n np e => k H' p e ⟨s, n⟩ np⟩
    · exact ⟨_, rfl, _, rfl, h, v, rs, ds, rfl, hh, .inr ⟨nr, k⟩⟩
end
end Lamp
set_option maxHeartbeats 2000000
namespace Lamp
open PySem PySem.Spec PyProof.Rows L2
open LamX (CodeO TabS Tabs ExtN TabB GivesTo tLam lamCx lamEnv LamS)
/-! ### House(..) of a lambda, refused -/
theorem NoRow.extN {K : PySem.W.Frag} {H H' : Hp} {v : V} (n : NoRow K H v) (e : ExtN H H') : NoRow K H' v := by
  obtain ⟨t, h1, h2⟩ := n
  exact ⟨t, ty_extN h1 e, h2⟩
theorem KnwN.extN {K : PySem.W.Frag} {H H' : Hp} {v : V} (k : KnwN K H v) (e : ExtN H H') : KnwN K H' v := by
  rcases k with k | ⟨n, t, h1, h2⟩
  · exact .inl k
  · exact .inr ⟨n, t, ty_extN h1 e, h2⟩
theorem TellsR.extN {K : PySem.W.Frag} {H H' : Hp} {x : V} {o : Option Nat} (k : TellsR K H x o) (s : ExtN H H') : TellsR K H' x o := by
  rcases k with ⟨e, n⟩ | ⟨a, ws, e, r, kn, l, h⟩
  · exact .inl ⟨e, n.extN s⟩
  · exact .inr ⟨a, ws, e, r.extN s, fun v hv => (kn v hv).extN s, l, h⟩
theorem DoorV.extN {K : PySem.W.Frag} {H H' : Hp} {rs : List Str} {v : V} {o : Option Ed} (d : DoorV K H rs v o) (s : ExtN H H') : DoorV K H' rs v o := by
  cases o with
  | none =>
    rcases d with d | ⟨a, ws, e, r, k, n⟩
    · exact .inl (d.extN s)
    · exact .inr ⟨a, ws, e, r.extN s, fun u hu => (k u hu).extN s, n⟩
  | some p =>
    obtain ⟨a, e, r, h⟩ := d
    exact ⟨a, e, r.extN s, h⟩
theorem TellsD.extN {K : PySem.W.Frag} {H H' : Hp} {rs : List Str} {x : V} {o : Option Nat} (k : TellsD K H rs x o) (s : ExtN H H') : TellsD K H' rs x o := by
  rcases k with ⟨e, n⟩ | ⟨b, ws, us, es, rest, e, r, ew, p, g, h⟩
  · exact .inl ⟨e, n.extN s⟩
  · refine .inr ⟨b, ws, us, es, rest, e, r.extN s, ew, Paired.imp (fun _ _ d => d.extN s) p, g, h.imp id fun h => ?_⟩
    obtain ⟨v, vs, e1, e2, h⟩ := h
    exact ⟨v, vs, e1, e2, h.imp (fun d => d.extN s) fun ⟨e, d, c⟩ => ⟨e, d.extN s, c⟩⟩
theorem DoorsAt.extN {K : PySem.W.Frag} {H H' : Hp} {rs : List Str} {b : Addr} {es : List Ed} (d : DoorsAt K H rs b es) (s : ExtN H H') : DoorsAt K H' rs b es := by
  obtain ⟨us, r, p⟩ := d
  exact ⟨us, r.extN s, Paired.imp (fun _ _ d => d.extN s) p⟩
theorem NoRm.extN {K : PySem.W.Frag} {H H' : Hp} {rs : List Str} {v : V} (n : NoRm K H rs v) (e : ExtN H H') : NoRm K H' rs v := by
  rcases n with n | ⟨t, h1, h2⟩
  · exact .inl n
  · exact .inr ⟨t, ty_extN h1 e, h2⟩
/-- the heap in which an object is made -/
theorem made_same {H : Hp} {x dx C : Addr} (nx : H x = none) (ndx : H dx = none) : Same H (upd (upd H dx (.own x)) x (.ins C dx [])) := fun b o e => by
  rw [upd_ne (ne_of_none e nx), upd_ne (ne_of_none e ndx)]
  exact e
theorem made_gx {H H' : Hp} {x dx C : Addr} (nx : H x = none) (ndx : H dx = none) (g : Gx x (upd (upd H dx (.own x)) x (.ins C dx [])) H') : Same H H' := fun b o e => g.s b o (made_same nx ndx b o e) (ne_of_none e nx)
section
variable {P : Program} {w : World} {K : PySem.W.Frag} {mg : Str → Option Value} {base : Heap} {C CR CD CN CM : Addr} {T : List (Addr × Str)}
abbrev tHs (K : PySem.W.Frag) (C CR CD CN : Addr) (i j : Nat) (E : XK) : TE := tMake C (spInitA K C CR CD CN) [] E (tCons (tVar i) (tCons (tVar j) tNil))
theorem met_rooms {σ : L2.St} {H : Hp} {Q : VK} {i j o : Nat} {va vb : V} (hi : σ[i]? = some (some va)) (hj : σ[j]? = some (some vb)) (tb : Tabs T H) (tl : TellsR K H va (some o))
    (k : ∀ H' p, ExtN H H' → Tabs T H' → H' p = some (.tup [.str "rooms", .int (o : Int)]) → Q (.ref p) H') : tLam T (TMets K (mcs1 CR CD CN CM)) (tHs K C CR CD CN i j) σ H Q := by
  refine ⟨tb, fun H1 e1 t1 => ?_⟩
  refine ⟨_, hi, _, hj, fun x dx nx ndx ne => ?_⟩
  refine ⟨x, dx, va, vb, rfl, upd_same, .inl ⟨o, (tl.extN e1).up (made_same nx ndx), fun H2 d g nd hd => ?_⟩⟩
  refine ⟨⟨"BadRooms", CR, "index", "rooms"⟩, by unfold mcs1; simp, rfl, d, _, rfl, hd, fun p np => ?_⟩
  have s2 := (made_gx nx ndx g).trans (same_upd (o := .tup [.str "rooms", .int (o : Int)]) np)
  exact k _ p (e1.trans (ExtN.of s2)) (t1.ext s2) upd_same
theorem met_doors {σ : L2.St} {H : Hp} {Q : VK} {i j o : Nat} {a : Addr} {rs : List Str} {vb : V} (hi : σ[i]? = some (some (.ref a))) (hj : σ[j]? = some (some vb)) (tb : Tabs T H) (ra : RowA K H a (rs.map V.str)) (nd : rs.Nodup) (ne : rs ≠ []) (lr : rs.length < 60) (ok : ∀ r ∈ rs, nameOk r = true) (tl : TellsD K H rs vb (some o))
    (k : ∀ H' p, ExtN H H' → Tabs T H' → H' p = some (.tup [.str "doors", .int (o : Int)]) → Q (.ref p) H') : tLam T (TMets K (mcs1 CR CD CN CM)) (tHs K C CR CD CN i j) σ H Q := by
  refine ⟨tb, fun H1 e1 t1 => ?_⟩
  refine ⟨_, hi, _, hj, fun x dx nx ndx ne' => ?_⟩
  have s0 := made_same (C := C) nx ndx
  refine ⟨x, dx, .ref a, vb, rfl, upd_same, .inr ⟨a, rs, rfl, (ra.extN e1).up s0, nd, ne, lr, ok, .inl ⟨o, (tl.extN e1).up s0, fun H2 d g nd hd => ?_⟩⟩⟩
  refine ⟨⟨"BadDoors", CD, "index", "doors"⟩, by unfold mcs1; simp, rfl, d, _, rfl, hd, fun p np => ?_⟩
  have s2 := (made_gx nx ndx g).trans (same_upd (o := .tup [.str "doors", .int (o : Int)]) np)
  exact k _ p (e1.trans (ExtN.of s2)) (t1.ext s2) upd_same
theorem met_joined {σ : L2.St} {H : Hp} {Q : VK} {i j : Nat} {a b : Addr} {rs rs' : List Str} {es : List Ed} {m : Str} (hi : σ[i]? = some (some (.ref a))) (hj : σ[j]? = some (some (.ref b))) (tb : Tabs T H) (ra : RowA K H a (rs.map V.str)) (ok : ∀ r ∈ rs, nameOk r = true) (dr : DoorsAt K H rs b es) (pre : PreH rs es) (pm : rs'.Perm rs) (so : sortedS rs' = true) (ap : (apart rs' es).head? = some m)
    (k : ∀ H' p, ExtN H H' → Tabs T H' → H' p = some (.tup [.str "joined", .str m]) → Q (.ref p) H') : tLam T (TMets K (mcs1 CR CD CN CM)) (tHs K C CR CD CN i j) σ H Q := by
  refine ⟨tb, fun H1 e1 t1 => ?_⟩
  refine ⟨_, hi, _, hj, fun x dx nx ndx ne' => ?_⟩
  have s0 := made_same (C := C) nx ndx
  refine ⟨x, dx, .ref a, .ref b, rfl, upd_same, .inr ⟨a, rs, rfl, (ra.extN e1).up s0, pre.nodup, pre.ne, pre.len, ok, .inr ⟨b, es, rfl, (dr.extN e1).up s0, pre, .inr ⟨rs', m, pm, so, ap, fun H2 d g nd hd => ?_⟩⟩⟩⟩
  refine ⟨⟨"NotJoined", CN, "room", "joined"⟩, by unfold mcs1; simp, rfl, d, _, rfl, hd, fun p np => ?_⟩
  have s2 := (made_gx nx ndx g).trans (same_upd (o := .tup [.str "joined", .str m]) np)
  exact k _ p (e1.trans (ExtN.of s2)) (t1.ext s2) upd_same
abbrev tBs (K : PySem.W.Frag) (C CM : Addr) (i j : Nat) (E : XK) : TE := tCall (spBesR K C CM) [] E (tCons (tVar i) (tCons (tVar j) tNil))
theorem met_beside {σ : L2.St} {H : Hp} {Q : VK} {i j : Nat} {h : Addr} {v : V} {rs : List Str} {ds : List Ed} (hi : σ[i]? = some (some (.ref h))) (hj : σ[j]? = some (some v)) (tb : Tabs T H) (hh : HouseAt H C h rs ds) (nr : NoRm K H rs v)
    (k : ∀ H' p, ExtN H H' → Tabs T H' → H' p = some (.tup [.str "room", v]) → Q (.ref p) H') : tLam T (TMets K (mcs1 CR CD CN CM)) (tBs K C CM i j) σ H Q := by
  refine ⟨tb, fun H1 e1 t1 => ?_⟩
  refine ⟨_, hi, _, hj, h, v, rs, ds, rfl, hh.extN e1, .inr ⟨nr.extN e1, fun H2 d g nd hd => ?_⟩⟩
  refine ⟨⟨"NoRoom", CM, "thing", "room"⟩, by unfold mcs1; simp, rfl, d, _, rfl, hd, fun p np => ?_⟩
  have s2 := g.s.trans (same_upd (o := .tup [.str "room", v]) np)
  exact k _ p (e1.trans (ExtN.of s2)) (t1.ext s2) upd_same
end
end Lamp
set_option maxHeartbeats 8000000
namespace Lamp
open PySem PySem.Spec PyProof.Rows L2
/-! ### stays, passes of a tuple; a carrying tells no fault -/
theorem car_tells {K : PySem.W.Frag} {H : Hp} {a : Addr} {rs row : List Str} {ds : List Ed} (r : RowA K H a (row.map V.str)) (car : Car rs ds row) : Tells K H rs ds (.ref a) none := by
  refine .inr ⟨a, row.map V.str, rfl, r, fun v hv => ?_, .inr ⟨fun z => car.ne (List.map_eq_nil_iff.mp z), ?_⟩⟩
  · obtain ⟨z, _, rfl⟩ := List.mem_map.mp hv
    exact .inl ⟨z, rfl⟩
  · refine (faultV_all fun j hj => ?_).symm
    have hj2 : j < row.length := by
      rw [List.length_map] at hj
      exact hj
    have ej := at_lt hj2
    have mj := car.mem _ (List.mem_of_getElem? ej)
    refine ⟨_, .str (at_ row j), rfl, by rw [List.getElem?_map, ej]; rfl, ?_⟩
    cases j with
    | zero =>
      show (decide (at_ row 0 ∈ rs) && true) = true
      rw [decide_eq_true mj]
      rfl
    | succ j =>
      have ep := at_lt (show j < row.length by omega)
      have e : (row.map V.str).getD (j + 1 - 1) .non = .str (at_ row j) := by
        rw [Nat.add_sub_cancel, List.getD_eq_getElem?_getD, List.getElem?_map, ep]
        rfl
      rw [if_neg (Nat.succ_ne_zero j), e]
      show (decide (at_ row (j + 1) ∈ rs) && (decide (at_ row (j + 1) = at_ row j) || decide (at_ row (j + 1) ∈ nearOf ds (at_ row j)))) = true
      rw [decide_eq_true mj]
      rcases car.nxt j _ _ ep ej with z | z
      · rw [z, decide_eq_true rfl]
        rfl
      · rw [decide_eq_true z, Bool.or_true]
        rfl
section
variable {P : Program} {w : World} {K : PySem.W.Frag} {mg : Str → Option Value} {base : Heap} {C CB : Addr}
def spStaysT (K : PySem.W.Frag) (C : Addr) : Sp := fun vs H Q _ => ∃ (h a : Addr) (row rs : List Str) (ds : List Ed), vs = [.ref h, .ref a] ∧ HouseAt H C h rs ds ∧ SqT K H a (row.map V.str) ∧ (∀ H', Same H H' → TyX K H' (.ref a) (.type "tuple")) ∧ Car rs ds row ∧ row.length < 1000 ∧
  ∀ H' p ts L, H' p = some (.lst (ts.map V.ref)) → RnAt H' ts L → StInv row row.length L → L.length ≤ row.length → Gr H H' → H p = none → Q (.ref p) H'
end
end Lamp
set_option maxHeartbeats 8000000
namespace Lamp
open PySem PySem.Spec PyProof.Rows L2
section
variable {P : Program} {w : World} {K : PySem.W.Frag} {mg : Str → Option Value} {base : Heap} {C CB : Addr}
def spPassesT (K : PySem.W.Frag) (C : Addr) : Sp := fun vs H Q _ => ∃ (h a : Addr) (row rs : List Str) (ds : List Ed), vs = [.ref h, .ref a] ∧ HouseAt H C h rs ds ∧ GoodH rs ds ∧ SqT K H a (row.map V.str) ∧ (∀ H', Same H H' → TyX K H' (.ref a) (.type "tuple")) ∧ Car rs ds row ∧ row.length < 1000 ∧
  ∀ H' p, H' p = some (.dT (PT (prs rs ds) fun e => trs row e.1 e.2 row.length)) → Gr H H' → H p = none → Q (.ref p) H'
end
end Lamp
set_option maxHeartbeats 16000000
namespace Lamp
open PySem PySem.Spec PyProof.Rows L2
/-! ### _law_same: of any depth -/
theorem PE.or {X : Cx} {e : Expr} {t u : TE} (h : PE X e t) (g : PE X e u) : PE X e fun σ H Q => t σ H Q ∨ u σ H Q := ⟨fun pins s σ H Q I q => q.elim (h.run pins s σ H Q I) (g.run pins s σ H Q I)⟩
def scV (x y : V) : Prop := x = y ∧ ((∃ s, x = .str s) ∨ (∃ i, x = .int i) ∨ ∃ b, x = .bl b)
/-- found and due alike, of a depth at most n -/
def Tn (H : Hp) : Nat → V → V → Prop
  | 0, x, y => scV x y
  | n + 1, x, y => scV x y ∨ (∃ (a b : Addr) (xs ys : List V), x = .ref a ∧ y = .ref b ∧ H a = some (.lst xs) ∧ H b = some (.lst ys) ∧ xs.length < 100000 ∧ Paired (Tn H n) xs ys) ∨
    (∃ (a b : Addr) (xs ys : List V), x = .ref a ∧ y = .ref b ∧ H a = some (.tup xs) ∧ H b = some (.tup ys) ∧ xs.length < 100000 ∧ Paired (Tn H n) xs ys) ∨
    (2 ≤ n ∧ ∃ (a b : Addr) (kvs : List (Key × V)), x = .ref a ∧ y = .ref b ∧ H a = some (.dK kvs) ∧ H b = some (.dK kvs) ∧ kvs.length < 100000 ∧ ∀ p ∈ kvs, scV p.2 p.2) ∨
    (3 ≤ n ∧ ∃ (a b : Addr) (ps : List Ed) (c : Ed → Nat), x = .ref a ∧ y = .ref b ∧ H a = some (.dT (PT ps c)) ∧ H b = some (.dT (PT ps c)) ∧ ps.length < 100000)
theorem Tn.up {H H' : Hp} (s : Same H H') : ∀ {n : Nat} {x y : V}, Tn H n x y → Tn H' n x y
  | 0, _, _, h => h
  | n + 1, x, y, h => by
    rcases h with h | ⟨a, b, xs, ys, h1, h2, h3, h4, h5, h6⟩ | ⟨a, b, xs, ys, h1, h2, h3, h4, h5, h6⟩ | ⟨l, a, b, kvs, h1, h2, h3, h4, h5, h6⟩ | ⟨l, a, b, ps, c, h1, h2, h3, h4, h5⟩
    · exact .inl h
    · exact .inr (.inl ⟨a, b, xs, ys, h1, h2, s _ _ h3, s _ _ h4, h5, Paired.imp (fun _ _ e => Tn.up s e) h6⟩)
    · exact .inr (.inr (.inl ⟨a, b, xs, ys, h1, h2, s _ _ h3, s _ _ h4, h5, Paired.imp (fun _ _ e => Tn.up s e) h6⟩))
    · exact .inr (.inr (.inr (.inl ⟨l, a, b, kvs, h1, h2, s _ _ h3, s _ _ h4, h5, h6⟩)))
    · exact .inr (.inr (.inr (.inr ⟨l, a, b, ps, c, h1, h2, s _ _ h3, s _ _ h4, h5⟩)))
theorem Tn.sc {H : Hp} {x y : V} (h : scV x y) : ∀ {n : Nat}, Tn H n x y
  | 0 => h
  | _ + 1 => .inl h
theorem Tn.mono {H : Hp} : ∀ {n m : Nat} {x y : V}, n ≤ m → Tn H n x y → Tn H m x y
  | 0, _, _, _, _, h => Tn.sc h
  | n + 1, 0, _, _, l, _ => absurd l (Nat.not_succ_le_zero n)
  | n + 1, m + 1, x, y, l, h => by
    have l' := Nat.le_of_succ_le_succ l
    rcases h with h | ⟨a, b, xs, ys, h1, h2, h3, h4, h5, h6⟩ | ⟨a, b, xs, ys, h1, h2, h3, h4, h5, h6⟩ | ⟨q, a, b, kvs, h1⟩ | ⟨q, a, b, ps, c, h1⟩
    · exact .inl h
    · exact .inr (.inl ⟨a, b, xs, ys, h1, h2, h3, h4, h5, Paired.imp (fun _ _ e => Tn.mono l' e) h6⟩)
    · exact .inr (.inr (.inl ⟨a, b, xs, ys, h1, h2, h3, h4, h5, Paired.imp (fun _ _ e => Tn.mono l' e) h6⟩))
    · exact .inr (.inr (.inr (.inl ⟨Nat.le_trans q l', a, b, kvs, h1⟩)))
    · exact .inr (.inr (.inr (.inr ⟨Nat.le_trans q l', a, b, ps, c, h1⟩)))
def spSN (n : Nat) : Sp := fun vs H Q _ => ∃ x y, vs = [x, y] ∧ Tn H n x y ∧ ∀ H', Same H H' → Q (.bl true) H'
def spSNB : Nat → Sp
  | 0 => fun _ _ _ _ => False
  | n + 1 => spSN n
theorem same_put {H H' : Hp} {a : Addr} {o : HO} (s : Same H H') (h : H a = none) : Same H (L2.upd H' a o) := fun x u e => by
  rw [upd_ne (ne_of_none e h)]
  exact s x u e
section
variable {P : Program} {w : World} {K : PySem.W.Frag} {mg : Str → Option Value} {base : Heap}
theorem ok_sameN {f : Addr} {fd : FuncData} {n k : Nat} (F : Fun K "_law_same" "_law_same" s_law_same f fd) (T : TxtSm mg) (S : Stands P w K mg base k "_law_same" ["found", "due"] (spSNB n)) : FnOk P w K mg base CX0 (k + 1) f fd ["found", "due"] (spSN n) := by
  obtain ⟨fs, ds, Gs, ms, ks, bs⟩ := S
  refine F.ok scSm (fun vs H Q E h => ?_) (fun cdv A outer s H vs Q E hr h => ?_)
  · obtain ⟨x, y, rfl, _⟩ := h
    rfl
  · obtain ⟨x, y, rfl, tw, kk⟩ := h
    refine ⟨_, pss_cons (ps_if (pt_val (pe_callB call_isiT (by rfl) T.isi PyProof.Rows.Boot.isinstance (pa_cons (pv 1) (pa_cons (pe_tup (pa_cons (pe_bltn (v := .ty "list") (by rfl) T.list PyProof.Rows.Boot.list rfl) (pa_cons (pe_bltn (v := .ty "tuple") (by rfl) T.tuple PyProof.Rows.Boot.tuple rfl) pa_nil))) pa_nil))))
        (pss_cons (ps_if (PW.pt (pw_or (pt_cmpR op_ne (pe_callB call_isi (by rfl) T.isi PyProof.Rows.Boot.isinstance (pa_cons (pv 0) (pa_cons (pe_bltn (v := .ty "list") (by rfl) T.list PyProof.Rows.Boot.list rfl) pa_nil))) (pe_callB call_isi (by rfl) T.isi PyProof.Rows.Boot.isinstance (pa_cons (pv 1) (pa_cons (pe_bltn (v := .ty "list") (by rfl) T.list PyProof.Rows.Boot.list rfl) pa_nil))) (nomark _))
            (pw_or1 (pt_cmpR op_ne (pe_callB call_isi (by rfl) T.isi PyProof.Rows.Boot.isinstance (pa_cons (pv 0) (pa_cons (pe_bltn (v := .ty "tuple") (by rfl) T.tuple PyProof.Rows.Boot.tuple rfl) pa_nil))) (pe_callB call_isi (by rfl) T.isi PyProof.Rows.Boot.isinstance (pa_cons (pv 1) (pa_cons (pe_bltn (v := .ty "tuple") (by rfl) T.tuple PyProof.Rows.Boot.tuple rfl) pa_nil))) (nomark _)))))
          pss_dead pss_nil)
        (pss_one (ps_ret (pe_and (pe_cmpR op_eq (pe_callB call_len_seq (by rfl) T.len PySem.boot_len (pa_cons (pv 0) pa_nil)) (pe_callB call_len_seq (by rfl) T.len PySem.boot_len (pa_cons (pv 1) pa_nil)) (nomark _))
          (pe_one (pe_callB (cr_all rfl) (by rfl) T.all PyProof.Rows.Boot.all (pa_cons
            (pe_lc (te := tCall (spSNB n) [] E0 (tCons (tVar 2) (tCons (tVar 3) tNil))) (own := [("x", 2), ("y", 3)]) (g := gTup K 2 (gCons (gName 2) (gCons (gName 3) gNil))) (tt := tYes) rfl scSm.nd (RZ.pi_zipA (by rfl) T.zip (pa_cons (pv 0) (pa_cons (pv 1) pa_nil))) (blkOk_by (N := NSm) (sc := defScope s_law_same) (by decide +kernel))
              (fun _ _ _ _ _ => pg_tup rfl (pgs_cons (pg_name (i := 2) scSm.nd rfl (Or.inl rfl)) (pgs_cons (pg_name (i := 3) scSm.nd rfl (Or.inl rfl)) pgs_nil))) (fun _ _ _ _ _ => pts_nil)
              (fun _ _ _ _ _ => by exact (pe_call Gs hr (by rfl) ms ks bs .nil pass0 (pa_cons (pv 2) (pa_cons (pv 3) pa_nil))))) pa_nil)))))))
        pss_nil)
      (pss_cons (ps_if (pt_val (pe_callB call_isi (by rfl) T.isi PyProof.Rows.Boot.isinstance (pa_cons (pv 1) (pa_cons (pe_bltn (v := .ty "dict") (by rfl) T.dict PyProof.Rows.Boot.dict rfl) pa_nil))))
        (pss_one (ps_ret (pe_and (pe_callB call_isi (by rfl) T.isi PyProof.Rows.Boot.isinstance (pa_cons (pv 0) (pa_cons (pe_bltn (v := .ty "dict") (by rfl) T.dict PyProof.Rows.Boot.dict rfl) pa_nil)))
          (pe_one (pe_call Gs hr (by rfl) ms ks bs .nil pass0 (pa_cons (PE.or (LiI.pe_listItems rfl (pv 0) (by rfl) T.list PyProof.Rows.Boot.list) (pe_callTy (cr_itemsL2 rfl) (by rfl) T.list (by decide +kernel) (pa_cons (pe_bm0 PySem.F.plainAttrs_dict PySem.F.slot_dict_items PySem.F.type_dict_items DX.mt_itemsT (pv 0)) pa_nil))) (pa_cons (PE.or (LiI.pe_listItems rfl (pv 1) (by rfl) T.list PyProof.Rows.Boot.list) (pe_callTy (cr_itemsL2 rfl) (by rfl) T.list (by decide +kernel) (pa_cons (pe_bm0 PySem.F.plainAttrs_dict PySem.F.slot_dict_items PySem.F.type_dict_items DX.mt_itemsT (pv 1)) pa_nil))) pa_nil)))))))
        pss_nil)
      (pss_cons (ps_if (pt_val (pe_callB call_isi (by rfl) T.isi PyProof.Rows.Boot.isinstance (pa_cons (pv 1) (pa_cons (pe_bltn (v := .ty "int") (by rfl) T.int PyProof.Rows.Boot.int rfl) pa_nil))))
        (pss_one (ps_ret (pe_and (pe_callB call_isi (by rfl) T.isi PyProof.Rows.Boot.isinstance (pa_cons (pv 0) (pa_cons (pe_bltn (v := .ty "int") (by rfl) T.int PyProof.Rows.Boot.int rfl) pa_nil)))
          (pe_and (pe_cmpR op_eq (pe_callB call_isi (by rfl) T.isi PyProof.Rows.Boot.isinstance (pa_cons (pv 0) (pa_cons (pe_bltn (v := .ty "bool") (by rfl) T.bool PyProof.Rows.Boot.bool rfl) pa_nil))) (pe_callB call_isi (by rfl) T.isi PyProof.Rows.Boot.isinstance (pa_cons (pv 1) (pa_cons (pe_bltn (v := .ty "bool") (by rfl) T.bool PyProof.Rows.Boot.bool rfl) pa_nil))) (nomark _))
          (pe_one (pe_cmpR op_eq (pv 0) (pv 1) (nomark _)))))))
        pss_nil)
      (pss_one (ps_ret (pe_and (pe_not (pe_callB call_isiT (by rfl) T.isi PyProof.Rows.Boot.isinstance (pa_cons (pv 0) (pa_cons (pe_tup (pa_cons (pe_bltn (v := .ty "int") (by rfl) T.int PyProof.Rows.Boot.int rfl) (pa_cons (pe_bltn (v := .ty "list") (by rfl) T.list PyProof.Rows.Boot.list rfl) (pa_cons (pe_bltn (v := .ty "tuple") (by rfl) T.tuple PyProof.Rows.Boot.tuple rfl) (pa_cons (pe_bltn (v := .ty "dict") (by rfl) T.dict PyProof.Rows.Boot.dict rfl) pa_nil))))) pa_nil))))
        (pe_one (pe_cmpR op_eq (pv 0) (pv 1) (nomark _)))))))), ?_⟩
    refine ⟨_, rfl, (by show 2 ≤ sizeLine; decide), fun q nq => ?_⟩
    have g1 := same_upd (o := .tup [.ty "list", .ty "tuple"]) nq
    by_cases sc : scV x y
    · obtain ⟨rfl, z⟩ := sc
      rcases z with ⟨s, rfl⟩ | ⟨i, rfl⟩ | ⟨b, rfl⟩
      · refine ⟨.str s, q, _, .type "str", _, false, rfl, upd_same, .cons (.ty _) (.cons (.ty _) .nil), .base (.str s), kitAny_cons (b := false) (kit_ty (by decide +kernel)) (fun _ => kitAny_cons (b := false) (kit_ty (by decide +kernel)) (fun _ => kitAny_nil) fun z => by cases z) (fun z => by cases z), _, rfl, iteF ?_⟩
        refine ⟨_, rfl, .str s, .ty "dict", _, _, false, rfl, .ty _, .base (.str s), kit_ty (by decide +kernel), _, rfl, iteF ?_⟩
        refine ⟨_, rfl, .str s, .ty "int", _, _, false, rfl, .ty _, .base (.str s), kit_ty (by decide +kernel), _, rfl, iteF ?_⟩
        refine ⟨_, rfl, (by show 4 ≤ sizeLine; decide), fun q2 nq2 => ?_⟩
        refine ⟨.str s, q2, _, .type "str", _, false, rfl, upd_same, .cons (.ty _) (.cons (.ty _) (.cons (.ty _) (.cons (.ty _) .nil))), .base (.str s), kitAny_cons (b := false) (kit_ty (by decide +kernel)) (fun _ => kitAny_cons (b := false) (kit_ty (by decide +kernel)) (fun _ => kitAny_cons (b := false) (kit_ty (by decide +kernel)) (fun _ => kitAny_cons (b := false) (kit_ty (by decide +kernel)) (fun _ => kitAny_nil) fun z => by cases z) fun z => by cases z) fun z => by cases z) (fun z => by cases z), false, rfl, true, rfl, iteT ?_⟩
        refine ⟨_, rfl, _, rfl, rfl, ?_⟩
        rw [decide_eq_true rfl]
        exact kk _ (Same.trans g1 (same_upd nq2))
      · refine ⟨.int i, q, _, .type "int", _, false, rfl, upd_same, .cons (.ty _) (.cons (.ty _) .nil), .base (.int i), kitAny_cons (b := false) (kit_ty (by decide +kernel)) (fun _ => kitAny_cons (b := false) (kit_ty (by decide +kernel)) (fun _ => kitAny_nil) fun z => by cases z) (fun z => by cases z), _, rfl, iteF ?_⟩
        refine ⟨_, rfl, .int i, .ty "dict", _, _, false, rfl, .ty _, .base (.int i), kit_ty (by decide +kernel), _, rfl, iteF ?_⟩
        refine ⟨_, rfl, .int i, .ty "int", _, _, true, rfl, .ty _, .base (.int i), kit_ty (by decide +kernel), _, rfl, iteT ?_⟩
        refine ⟨_, rfl, .int i, .ty "int", _, _, true, rfl, .ty _, .base (.int i), kit_ty (by decide +kernel), true, rfl, iteT ?_⟩
        refine ⟨_, rfl, .int i, .ty "bool", _, _, false, rfl, .ty _, .base (.int i), kit_ty (by decide +kernel), _, rfl, .int i, .ty "bool", _, _, false, rfl, .ty _, .base (.int i), kit_ty (by decide +kernel), rfl, true, rfl, iteT ?_⟩
        refine ⟨_, rfl, _, rfl, rfl, ?_⟩
        rw [decide_eq_true rfl]
        exact kk _ g1
      · refine ⟨.bl b, q, _, .type "bool", _, false, rfl, upd_same, .cons (.ty _) (.cons (.ty _) .nil), .base (.bl b), kitAny_cons (b := false) (kit_ty (by decide +kernel)) (fun _ => kitAny_cons (b := false) (kit_ty (by decide +kernel)) (fun _ => kitAny_nil) fun z => by cases z) (fun z => by cases z), _, rfl, iteF ?_⟩
        refine ⟨_, rfl, .bl b, .ty "dict", _, _, false, rfl, .ty _, .base (.bl b), kit_ty (by decide +kernel), _, rfl, iteF ?_⟩
        refine ⟨_, rfl, .bl b, .ty "int", _, _, true, rfl, .ty _, .base (.bl b), kit_ty (by decide +kernel), _, rfl, iteT ?_⟩
        refine ⟨_, rfl, .bl b, .ty "int", _, _, true, rfl, .ty _, .base (.bl b), kit_ty (by decide +kernel), true, rfl, iteT ?_⟩
        refine ⟨_, rfl, .bl b, .ty "bool", _, _, true, rfl, .ty _, .base (.bl b), kit_ty (by decide +kernel), _, rfl, .bl b, .ty "bool", _, _, true, rfl, .ty _, .base (.bl b), kit_ty (by decide +kernel), rfl, true, rfl, iteT ?_⟩
        refine ⟨_, rfl, _, rfl, rfl, ?_⟩
        rw [decide_eq_true rfl]
        exact kk _ g1
    match n, tw, Gs with
    | 0, tw, Gs => exact absurd tw sc
    | n + 1, tw, Gs =>
      rcases tw with tw | ⟨a, b, xs, ys, rfl, rfl, ha, hb, le, pa⟩ | ⟨a, b, xs, ys, rfl, rfl, ha, hb, le, pa⟩ | ⟨ln, a, b, kvs, rfl, rfl, ha, hb, le, sv⟩ | ⟨ln, a, b, ps, c, rfl, rfl, ha, hb, le⟩
      · exact absurd tw sc
      · have ha1 := g1 _ _ ha
        have hb1 := g1 _ _ hb
        have le2 := paired_len pa
        refine ⟨.ref b, q, _, .type "list", _, true, rfl, upd_same, .cons (.ty _) (.cons (.ty _) .nil), .base (.lst hb1), kitAny_cons (b := true) (kit_ty (by decide +kernel)) (fun z => by cases z) (fun _ => rfl), _, rfl, iteT ?_⟩
        refine ⟨_, rfl, .ref a, .ty "list", _, _, true, rfl, .ty _, .base (.lst ha1), kit_ty (by decide +kernel), _, rfl, .ref b, .ty "list", _, _, true, rfl, .ty _, .base (.lst hb1), kit_ty (by decide +kernel), rfl, _, rfl, iteF2 (by rfl) ?_⟩
        refine ⟨_, rfl, .ref a, .ty "tuple", _, _, false, rfl, .ty _, .base (.lst ha1), kit_ty (by decide +kernel), _, rfl, .ref b, .ty "tuple", _, _, false, rfl, .ty _, .base (.lst hb1), kit_ty (by decide +kernel), rfl, _, rfl, iteF2 (by rfl) ?_⟩
        refine ⟨_, rfl, a, _, rfl, .inl (SqL.of ha1), _, rfl, b, _, rfl, .inl (SqL.of hb1), rfl, true, ?_, iteT ?_⟩
        · rw [le2, decide_eq_true rfl]
        refine ⟨_, rfl, _, rfl, a, b, _, _, rfl, .inl ⟨SqL.of ha1, SqL.of hb1, fun B hB => ?_⟩⟩
        refine lc_it (walk_zip (xs := xs) (ys := ys) (n := xs.length) (by rw [le2, Nat.min_self])) (fun j H' => H' B = some (.lst ((List.replicate j true).map V.bl)) ∧ Same (upd H q (.tup [.ty "list", .ty "tuple"])) H') ⟨upd_same, same_upd hB⟩ (fun j H' _ g => ⟨SqL.of (g.2 _ _ ha1), SqL.of (g.2 _ _ hb1)⟩) ?_ ?_
        · rintro j v H' H'' hj ⟨w1, w2⟩ ⟨T0, x0, y0, rfl, nT, rfl, e3, e4⟩
          obtain ⟨y1, f1, f2⟩ := paired_at pa e3
          obtain rfl : y1 = y0 := Option.some.inj (f1.symm.trans e4)
          have u1 := same_upd (o := .tup [x0, y1]) nT
          have gx : Same H _ := Same.trans (Same.trans g1 w2) u1
          refine ⟨T0, _, rfl, SqT.of upd_same, rfl, _, _, rfl, _, _, rfl, rfl, rfl, ?_⟩
          refine ⟨_, rfl, _, rfl, x0, y1, rfl, Tn.up gx f2, fun H3 g3 => ⟨_, g3 _ _ (u1 _ _ w1), ?_, ?_, same_put (Same.trans (Same.trans w2 u1) g3) hB⟩⟩
          · rw [List.length_map, List.length_replicate]
            exact Nat.lt_of_lt_of_le (Nat.lt_trans hj le) (by decide)
          · rw [upd_same, List.replicate_succ', List.map_append]
            rfl
        · rintro H' ⟨w1, w2⟩
          refine ⟨B, List.replicate xs.length true, rfl, .inl (.inl w1), ?_⟩
          have e : (List.replicate xs.length true).all id = true := List.all_eq_true.mpr fun b hb => (List.eq_of_mem_replicate hb)
          rw [e]
          exact kk _ (Same.trans g1 w2)
      · have ha1 := g1 _ _ ha
        have hb1 := g1 _ _ hb
        have le2 := paired_len pa
        refine ⟨.ref b, q, _, .type "tuple", _, true, rfl, upd_same, .cons (.ty _) (.cons (.ty _) .nil), .base (.tup hb1), kitAny_cons (b := false) (kit_ty (by decide +kernel)) (fun _ => kitAny_cons (b := true) (kit_ty (by decide +kernel)) (fun z => by cases z) fun _ => rfl) (fun z => by cases z), _, rfl, iteT ?_⟩
        refine ⟨_, rfl, .ref a, .ty "list", _, _, false, rfl, .ty _, .base (.tup ha1), kit_ty (by decide +kernel), _, rfl, .ref b, .ty "list", _, _, false, rfl, .ty _, .base (.tup hb1), kit_ty (by decide +kernel), rfl, _, rfl, iteF2 (by rfl) ?_⟩
        refine ⟨_, rfl, .ref a, .ty "tuple", _, _, true, rfl, .ty _, .base (.tup ha1), kit_ty (by decide +kernel), _, rfl, .ref b, .ty "tuple", _, _, true, rfl, .ty _, .base (.tup hb1), kit_ty (by decide +kernel), rfl, _, rfl, iteF2 (by rfl) ?_⟩
        refine ⟨_, rfl, a, _, rfl, .inr (SqT.of ha1), _, rfl, b, _, rfl, .inr (SqT.of hb1), rfl, true, ?_, iteT ?_⟩
        · rw [le2, decide_eq_true rfl]
        refine ⟨_, rfl, _, rfl, a, b, _, _, rfl, .inr ⟨SqT.of ha1, SqT.of hb1, fun B hB => ?_⟩⟩
        refine lc_it (walk_two (xs := xs) (ys := ys) le2) (fun j H' => H' B = some (.lst ((List.replicate j true).map V.bl)) ∧ Same (upd H q (.tup [.ty "list", .ty "tuple"])) H') ⟨upd_same, same_upd hB⟩ (fun j H' _ g => ⟨SqT.of (g.2 _ _ ha1), SqT.of (g.2 _ _ hb1)⟩) ?_ ?_
        · rintro j v H' H'' hj ⟨w1, w2⟩ ⟨T0, x0, y0, rfl, nT, rfl, e3, e4⟩
          obtain ⟨y1, f1, f2⟩ := paired_at pa e3
          obtain rfl : y1 = y0 := Option.some.inj (f1.symm.trans e4)
          have u1 := same_upd (o := .tup [x0, y1]) nT
          have gx : Same H _ := Same.trans (Same.trans g1 w2) u1
          refine ⟨T0, _, rfl, SqT.of upd_same, rfl, _, _, rfl, _, _, rfl, rfl, rfl, ?_⟩
          refine ⟨_, rfl, _, rfl, x0, y1, rfl, Tn.up gx f2, fun H3 g3 => ⟨_, g3 _ _ (u1 _ _ w1), ?_, ?_, same_put (Same.trans (Same.trans w2 u1) g3) hB⟩⟩
          · rw [List.length_map, List.length_replicate]
            exact Nat.lt_of_lt_of_le (Nat.lt_trans hj le) (by decide)
          · rw [upd_same, List.replicate_succ', List.map_append]
            rfl
        · rintro H' ⟨w1, w2⟩
          refine ⟨B, List.replicate xs.length true, rfl, .inl (.inl w1), ?_⟩
          have e : (List.replicate xs.length true).all id = true := List.all_eq_true.mpr fun b hb => (List.eq_of_mem_replicate hb)
          rw [e]
          exact kk _ (Same.trans g1 w2)
      · have ha1 := g1 _ _ ha
        have hb1 := g1 _ _ hb
        refine ⟨.ref b, q, _, .type "dict", _, false, rfl, upd_same, .cons (.ty _) (.cons (.ty _) .nil), .base (.dK hb1), kitAny_cons (b := false) (kit_ty (by decide +kernel)) (fun _ => kitAny_cons (b := false) (kit_ty (by decide +kernel)) (fun _ => kitAny_nil) fun z => by cases z) (fun z => by cases z), _, rfl, iteF ?_⟩
        refine ⟨_, rfl, .ref b, .ty "dict", _, _, true, rfl, .ty _, .base (.dK hb1), kit_ty (by decide +kernel), _, rfl, iteT ?_⟩
        refine ⟨_, rfl, .ref a, .ty "dict", _, _, true, rfl, .ty _, .base (.dK ha1), kit_ty (by decide +kernel), true, rfl, iteT ?_⟩
        refine .inl ⟨_, rfl, a, _, rfl, ha1, fun H2 p ts k2 np _ _ ep tp => ?_⟩
        refine .inl ⟨_, rfl, b, _, rfl, k2 _ _ hb1, fun H3 p' us k3 np' _ _ ep' tp' => ?_⟩
        obtain ⟨m, rfl⟩ : ∃ m, n = m + 2 := ⟨n - 2, by omega⟩
        have tw : Tn H3 (m + 2) (.ref p) (.ref p') := by
          refine .inr (.inl ⟨p, p', _, _, rfl, rfl, k3 _ _ ep, ep', by rw [List.length_map, paired_len tp]; exact le, ?_⟩)
          have go : ∀ {kvs : List (Key × V)} {ts us : List Addr}, (∀ p ∈ kvs, scV p.2 p.2) → Paired (fun (t : Addr) (q : Key × V) => H2 t = some (.tup [kV q.1, q.2])) ts kvs → Paired (fun (t : Addr) (q : Key × V) => H3 t = some (.tup [kV q.1, q.2])) us kvs → Paired (Tn H3 (m + 1)) (ts.map V.ref) (us.map V.ref) := fun {kvs} => by
            induction kvs with
            | nil =>
              intro ts us _ h1 h2
              cases h1
              cases h2
              exact .nil
            | cons kv kvs ih =>
              intro ts us sv h1 h2
              cases h1 with
              | cons r1 h1 =>
                cases h2 with
                | cons r2 h2 =>
                  have kk : scV (kV kv.1) (kV kv.1) := ⟨rfl, by
                    obtain ⟨k, v⟩ := kv
                    cases k with
                    | inl i => exact .inr (.inl ⟨i, rfl⟩)
                    | inr s => exact .inl ⟨s, rfl⟩⟩
                  exact .cons (.inr (.inr (.inl ⟨_, _, _, _, rfl, rfl, k3 _ _ r1, r2, (show 2 < 100000 by decide), .cons (Tn.sc kk) (.cons (Tn.sc (sv kv List.mem_cons_self)) .nil)⟩))) (ih (fun p hp => sv p (List.mem_cons_of_mem _ hp)) h1 h2)
          exact go sv tp tp'
        exact ⟨.ref p, .ref p', rfl, tw, fun H4 g4 => kk _ fun x o e => g4 _ _ (k3 _ _ (k2 _ _ (g1 _ _ e)))⟩
      · have ha1 := g1 _ _ ha
        have hb1 := g1 _ _ hb
        refine ⟨.ref b, q, _, .type "dict", _, false, rfl, upd_same, .cons (.ty _) (.cons (.ty _) .nil), .base (.dT hb1), kitAny_cons (b := false) (kit_ty (by decide +kernel)) (fun _ => kitAny_cons (b := false) (kit_ty (by decide +kernel)) (fun _ => kitAny_nil) fun z => by cases z) (fun z => by cases z), _, rfl, iteF ?_⟩
        refine ⟨_, rfl, .ref b, .ty "dict", _, _, true, rfl, .ty _, .base (.dT hb1), kit_ty (by decide +kernel), _, rfl, iteT ?_⟩
        refine ⟨_, rfl, .ref a, .ty "dict", _, _, true, rfl, .ty _, .base (.dT ha1), kit_ty (by decide +kernel), true, rfl, iteT ?_⟩
        refine .inr ⟨_, rfl, .inr (.inr (.inl ⟨rfl, .inr ⟨_, ha1⟩⟩)), a, _, rfl, rfl, ha1, fun v1 nv1 => ?_⟩
        have s1 := same_upd (o := DX.itemsO v1 a) nv1
        refine ⟨v1, a, _, rfl, upd_same, s1 _ _ ha1, fun H2 l1 ts1 qs1 g2 nl1 e1 pq1 pt1 => ?_⟩
        have hb2 := g2.s _ _ (s1 _ _ hb1)
        refine .inr ⟨_, rfl, .inr (.inr (.inl ⟨rfl, .inr ⟨_, hb2⟩⟩)), b, _, rfl, rfl, hb2, fun v2 nv2 => ?_⟩
        have s2 := same_upd (o := DX.itemsO v2 b) nv2
        refine ⟨v2, b, _, rfl, upd_same, s2 _ _ hb2, fun H3 l2 ts2 qs2 g3 nl2 e2 pq2 pt2 => ?_⟩
        obtain ⟨L1, el1, pl1⟩ := its_of g2.s pq1 pt1
        obtain ⟨L2, el2, pl2⟩ := its_of g3.s pq2 pt2
        have s23 : Same H2 H3 := Same.trans s2 g3.s
        obtain ⟨m, rfl⟩ : ∃ m, n = m + 3 := ⟨n - 3, by omega⟩
        have tw : Tn H3 (m + 3) (.ref l1) (.ref l2) := by
          refine .inr (.inl ⟨l1, l2, _, _, rfl, rfl, s23 _ _ e1, e2, ?_, ?_⟩)
          · rw [List.length_map, paired_len pl1, ← List.length_map (f := fun x : Ed × Addr => x.1), el1]
            exact le
          have go : ∀ {L1 L2 : List (Ed × Addr)} {ts us : List Addr}, L1.map (·.1) = L2.map (·.1) → Paired (Its H2 c) ts L1 → Paired (Its H3 c) us L2 → Paired (Tn H3 (m + 2)) (ts.map V.ref) (us.map V.ref) := fun {L1} => by
            induction L1 with
            | nil =>
              intro L2 ts us e h1 h2
              cases L2 with
              | cons _ _ => cases e
              | nil =>
                cases h1
                cases h2
                exact .nil
            | cons x L1 ih =>
              intro L2 ts us e h1 h2
              cases L2 with
              | nil => cases e
              | cons y L2 =>
                rw [List.map_cons, List.map_cons] at e
                obtain ⟨ex, et⟩ := List.cons.inj e
                cases h1 with
                | cons r1 h1 =>
                  cases h2 with
                  | cons r2 h2 =>
                    obtain ⟨⟨x1, x2⟩, xa⟩ := x
                    obtain ⟨⟨y1, y2⟩, ya⟩ := y
                    obtain ⟨rfl, rfl⟩ := Prod.mk.inj ex
                    refine .cons (.inr (.inr (.inl ⟨_, _, _, _, rfl, rfl, s23 _ _ r1.1, r2.1, (show 2 < 100000 by decide), .cons ?_ (.cons (Tn.sc ⟨rfl, .inr (.inl ⟨_, rfl⟩)⟩) .nil)⟩))) (ih et h1 h2)
                    exact .inr (.inr (.inl ⟨_, _, _, _, rfl, rfl, s23 _ _ r1.2, r2.2, (show 2 < 100000 by decide), .cons (Tn.sc ⟨rfl, .inl ⟨_, rfl⟩⟩) (.cons (Tn.sc ⟨rfl, .inl ⟨_, rfl⟩⟩) .nil)⟩))
          exact go (el1.trans el2.symm) pl1 pl2
        exact ⟨.ref l1, .ref l2, rfl, tw, fun H4 g4 => kk _ fun x o e => g4 _ _ (s23 _ _ (g2.s _ _ (s1 _ _ (g1 _ _ e))))⟩
end
end Lamp
set_option maxHeartbeats 16000000
namespace Lamp
open PySem PySem.Spec PyProof.Rows L2
/-! ### _law_same: of any depth, of None too, dicts of any such -/
def scG (x y : V) : Prop := x = y ∧ ((∃ s, x = .str s) ∨ (∃ i, x = .int i) ∨ (∃ b, x = .bl b) ∨ x = .non)
theorem scG.str (s : Str) : scG (.str s) (.str s) := ⟨rfl, .inl ⟨s, rfl⟩⟩
theorem scG.int (i : Int) : scG (.int i) (.int i) := ⟨rfl, .inr (.inl ⟨i, rfl⟩)⟩
theorem scG.bl (b : Bool) : scG (.bl b) (.bl b) := ⟨rfl, .inr (.inr (.inl ⟨b, rfl⟩))⟩
theorem scG.non : scG .non .non := ⟨rfl, .inr (.inr (.inr rfl))⟩
theorem scG.of {x y : V} (h : scV x y) : scG x y := ⟨h.1, h.2.imp id fun z => z.imp id .inl⟩
/-- found and due alike, of a depth at most n -/
inductive Tg (H : Hp) : Nat → V → V → Prop
  | sc {n : Nat} {x y : V} (h : scG x y) : Tg H n x y
  | lst {n : Nat} {a b : Addr} {xs ys : List V} (ha : H a = some (.lst xs)) (hb : H b = some (.lst ys)) (hl : xs.length < 100000) (le : xs.length = ys.length) (h : ∀ (i : Nat) (x y : V), xs[i]? = some x → ys[i]? = some y → Tg H n x y) : Tg H (n + 1) (.ref a) (.ref b)
  | tup {n : Nat} {a b : Addr} {xs ys : List V} (ha : H a = some (.tup xs)) (hb : H b = some (.tup ys)) (hl : xs.length < 100000) (le : xs.length = ys.length) (h : ∀ (i : Nat) (x y : V), xs[i]? = some x → ys[i]? = some y → Tg H n x y) : Tg H (n + 1) (.ref a) (.ref b)
  | dK {n : Nat} {a b : Addr} {kvs kvs' : List (Key × V)} (ha : H a = some (.dK kvs)) (hb : H b = some (.dK kvs')) (hl : kvs.length < 100000) (ke : kvs.map (·.1) = kvs'.map (·.1)) (h : ∀ (i : Nat) (p q : Key × V), kvs[i]? = some p → kvs'[i]? = some q → Tg H n p.2 q.2) : Tg H (n + 3) (.ref a) (.ref b)
  | dT {n : Nat} {a b : Addr} {ps : List Ed} {c : Ed → Nat} (ha : H a = some (.dT (PT ps c))) (hb : H b = some (.dT (PT ps c))) (hl : ps.length < 100000) : Tg H (n + 4) (.ref a) (.ref b)
theorem Tg.up {H H' : Hp} (s : Same H H') {n : Nat} {x y : V} (h : Tg H n x y) : Tg H' n x y := by
  induction h with
  | sc h => exact .sc h
  | lst ha hb hl le _ ih => exact .lst (s _ _ ha) (s _ _ hb) hl le ih
  | tup ha hb hl le _ ih => exact .tup (s _ _ ha) (s _ _ hb) hl le ih
  | dK ha hb hl ke _ ih => exact .dK (s _ _ ha) (s _ _ hb) hl ke ih
  | dT ha hb hl => exact .dT (s _ _ ha) (s _ _ hb) hl
theorem Tg.mono {H : Hp} {n : Nat} {x y : V} (h : Tg H n x y) : ∀ {m : Nat}, n ≤ m → Tg H m x y := by
  induction h with
  | sc h => exact fun _ => .sc h
  | lst ha hb hl le _ ih =>
    intro m l
    obtain ⟨m', rfl⟩ : ∃ m', m = m' + 1 := ⟨m - 1, by omega⟩
    exact .lst ha hb hl le fun i x y h1 h2 => ih i x y h1 h2 (by omega)
  | tup ha hb hl le _ ih =>
    intro m l
    obtain ⟨m', rfl⟩ : ∃ m', m = m' + 1 := ⟨m - 1, by omega⟩
    exact .tup ha hb hl le fun i x y h1 h2 => ih i x y h1 h2 (by omega)
  | dK ha hb hl ke _ ih =>
    intro m l
    obtain ⟨m', rfl⟩ : ∃ m', m = m' + 3 := ⟨m - 3, by omega⟩
    exact .dK ha hb hl ke fun i p q h1 h2 => ih i p q h1 h2 (by omega)
  | dT ha hb hl =>
    intro m l
    obtain ⟨m', rfl⟩ : ∃ m', m = m' + 4 := ⟨m - 4, by omega⟩
    exact .dT ha hb hl
theorem Tg.of {H : Hp} : ∀ {n : Nat} {x y : V}, Tn H n x y → Tg H n x y
  | 0, _, _, h => .sc (.of h)
  | n + 1, x, y, h => by
    have go : ∀ {xs ys : List V}, Paired (Tn H n) xs ys → ∀ (i : Nat) (x y : V), xs[i]? = some x → ys[i]? = some y → Tg H n x y := fun {xs ys} pa i x y h1 h2 => by
      obtain ⟨y1, f1, f2⟩ := paired_at pa h1
      obtain rfl : y1 = y := Option.some.inj (f1.symm.trans h2)
      exact Tg.of f2
    rcases h with h | ⟨a, b, xs, ys, rfl, rfl, h3, h4, h5, h6⟩ | ⟨a, b, xs, ys, rfl, rfl, h3, h4, h5, h6⟩ | ⟨l, a, b, kvs, rfl, rfl, h3, h4, h5, h6⟩ | ⟨l, a, b, ps, c, rfl, rfl, h3, h4, h5⟩
    · exact .sc (.of h)
    · exact .lst h3 h4 h5 (paired_len h6) (go h6)
    · exact .tup h3 h4 h5 (paired_len h6) (go h6)
    · obtain ⟨m, rfl⟩ : ∃ m, n = m + 2 := ⟨n - 2, by omega⟩
      exact .dK h3 h4 h5 rfl fun i p q h1 h2 => by
        obtain rfl := Option.some.inj (h1.symm.trans h2)
        exact .sc (.of (h6 _ (List.mem_of_getElem? h1)))
    · obtain ⟨m, rfl⟩ : ∃ m, n = m + 3 := ⟨n - 3, by omega⟩
      exact .dT h3 h4 h5
theorem Tg.two {H : Hp} {n : Nat} {x1 x2 y1 y2 : V} (h1 : Tg H n x1 y1) (h2 : Tg H n x2 y2) : ∀ (i : Nat) (x y : V), [x1, x2][i]? = some x → [y1, y2][i]? = some y → Tg H n x y
  | 0, x, y, e1, e2 => by
    obtain rfl := Option.some.inj e1
    obtain rfl := Option.some.inj e2
    exact h1
  | 1, x, y, e1, e2 => by
    obtain rfl := Option.some.inj e1
    obtain rfl := Option.some.inj e2
    exact h2
  | i + 2, x, y, e1, e2 => by cases e1
theorem Tg.one {H : Hp} {n : Nat} {x1 y1 : V} (h1 : Tg H n x1 y1) : ∀ (i : Nat) (x y : V), [x1][i]? = some x → [y1][i]? = some y → Tg H n x y
  | 0, x, y, e1, e2 => by
    obtain rfl := Option.some.inj e1
    obtain rfl := Option.some.inj e2
    exact h1
  | i + 1, x, y, e1, e2 => by cases e1
theorem Tg.cons {H : Hp} {n : Nat} {x1 y1 : V} {xs ys : List V} (h1 : Tg H n x1 y1) (h : ∀ (i : Nat) (x y : V), xs[i]? = some x → ys[i]? = some y → Tg H n x y) : ∀ (i : Nat) (x y : V), (x1 :: xs)[i]? = some x → (y1 :: ys)[i]? = some y → Tg H n x y
  | 0, x, y, e1, e2 => by
    obtain rfl := Option.some.inj e1
    obtain rfl := Option.some.inj e2
    exact h1
  | i + 1, x, y, e1, e2 => h i x y e1 e2
theorem Tg.nil {H : Hp} {n : Nat} : ∀ (i : Nat) (x y : V), ([] : List V)[i]? = some x → ([] : List V)[i]? = some y → Tg H n x y := fun i x y e1 _ => by cases e1
theorem Tg.texts {H : Hp} {n : Nat} {xs : List Str} : ∀ (i : Nat) (x y : V), (xs.map V.str)[i]? = some x → (xs.map V.str)[i]? = some y → Tg H n x y := fun i x y e1 e2 => by
  obtain rfl := Option.some.inj (e1.symm.trans e2)
  rw [List.getElem?_map] at e1
  obtain ⟨z, _, rfl⟩ := Option.map_eq_some_iff.mp e1
  exact .sc (.str z)
/-- the same list of texts, told twice -/
theorem Tg.lstS {H : Hp} {n : Nat} {a b : Addr} {xs : List Str} (ha : H a = some (.lst (xs.map V.str))) (hb : H b = some (.lst (xs.map V.str))) (hl : xs.length < 100000) : Tg H (n + 1) (.ref a) (.ref b) := .lst ha hb (by rw [List.length_map]; exact hl) rfl Tg.texts
def spSG (n : Nat) : Sp := fun vs H Q _ => ∃ x y, vs = [x, y] ∧ Tg H n x y ∧ ∀ H', Same H H' → Q (.bl true) H'
def spSGB : Nat → Sp
  | 0 => fun _ _ _ _ => False
  | n + 1 => spSG n
section
variable {P : Program} {w : World} {K : PySem.W.Frag} {mg : Str → Option Value} {base : Heap}
theorem ok_sameG {f : Addr} {fd : FuncData} {n k : Nat} (F : Fun K "_law_same" "_law_same" s_law_same f fd) (T : TxtSm mg) (S : Stands P w K mg base k "_law_same" ["found", "due"] (spSGB n)) : FnOk P w K mg base CX0 (k + 1) f fd ["found", "due"] (spSG n) := by
  obtain ⟨fs, ds, Gs, ms, ks, bs⟩ := S
  refine F.ok scSm (fun vs H Q E h => ?_) (fun cdv A outer s H vs Q E hr h => ?_)
  · obtain ⟨x, y, rfl, _⟩ := h
    rfl
  · obtain ⟨x, y, rfl, tw, kk⟩ := h
    refine ⟨_, pss_cons (ps_if (pt_val (pe_callB call_isiT (by rfl) T.isi PyProof.Rows.Boot.isinstance (pa_cons (pv 1) (pa_cons (pe_tup (pa_cons (pe_bltn (v := .ty "list") (by rfl) T.list PyProof.Rows.Boot.list rfl) (pa_cons (pe_bltn (v := .ty "tuple") (by rfl) T.tuple PyProof.Rows.Boot.tuple rfl) pa_nil))) pa_nil))))
        (pss_cons (ps_if (PW.pt (pw_or (pt_cmpR op_ne (pe_callB call_isi (by rfl) T.isi PyProof.Rows.Boot.isinstance (pa_cons (pv 0) (pa_cons (pe_bltn (v := .ty "list") (by rfl) T.list PyProof.Rows.Boot.list rfl) pa_nil))) (pe_callB call_isi (by rfl) T.isi PyProof.Rows.Boot.isinstance (pa_cons (pv 1) (pa_cons (pe_bltn (v := .ty "list") (by rfl) T.list PyProof.Rows.Boot.list rfl) pa_nil))) (nomark _))
            (pw_or1 (pt_cmpR op_ne (pe_callB call_isi (by rfl) T.isi PyProof.Rows.Boot.isinstance (pa_cons (pv 0) (pa_cons (pe_bltn (v := .ty "tuple") (by rfl) T.tuple PyProof.Rows.Boot.tuple rfl) pa_nil))) (pe_callB call_isi (by rfl) T.isi PyProof.Rows.Boot.isinstance (pa_cons (pv 1) (pa_cons (pe_bltn (v := .ty "tuple") (by rfl) T.tuple PyProof.Rows.Boot.tuple rfl) pa_nil))) (nomark _)))))
          pss_dead pss_nil)
        (pss_one (ps_ret (pe_and (pe_cmpR op_eq (pe_callB call_len_seq (by rfl) T.len PySem.boot_len (pa_cons (pv 0) pa_nil)) (pe_callB call_len_seq (by rfl) T.len PySem.boot_len (pa_cons (pv 1) pa_nil)) (nomark _))
          (pe_one (pe_callB (cr_all rfl) (by rfl) T.all PyProof.Rows.Boot.all (pa_cons
            (pe_lc (te := tCall (spSGB n) [] E0 (tCons (tVar 2) (tCons (tVar 3) tNil))) (own := [("x", 2), ("y", 3)]) (g := gTup K 2 (gCons (gName 2) (gCons (gName 3) gNil))) (tt := tYes) rfl scSm.nd (RZ.pi_zipA (by rfl) T.zip (pa_cons (pv 0) (pa_cons (pv 1) pa_nil))) (blkOk_by (N := NSm) (sc := defScope s_law_same) (by decide +kernel))
              (fun _ _ _ _ _ => pg_tup rfl (pgs_cons (pg_name (i := 2) scSm.nd rfl (Or.inl rfl)) (pgs_cons (pg_name (i := 3) scSm.nd rfl (Or.inl rfl)) pgs_nil))) (fun _ _ _ _ _ => pts_nil)
              (fun _ _ _ _ _ => by exact (pe_call Gs hr (by rfl) ms ks bs .nil pass0 (pa_cons (pv 2) (pa_cons (pv 3) pa_nil))))) pa_nil)))))))
        pss_nil)
      (pss_cons (ps_if (pt_val (pe_callB call_isi (by rfl) T.isi PyProof.Rows.Boot.isinstance (pa_cons (pv 1) (pa_cons (pe_bltn (v := .ty "dict") (by rfl) T.dict PyProof.Rows.Boot.dict rfl) pa_nil))))
        (pss_one (ps_ret (pe_and (pe_callB call_isi (by rfl) T.isi PyProof.Rows.Boot.isinstance (pa_cons (pv 0) (pa_cons (pe_bltn (v := .ty "dict") (by rfl) T.dict PyProof.Rows.Boot.dict rfl) pa_nil)))
          (pe_one (pe_call Gs hr (by rfl) ms ks bs .nil pass0 (pa_cons (PE.or (LiI.pe_listItems rfl (pv 0) (by rfl) T.list PyProof.Rows.Boot.list) (pe_callTy (cr_itemsL2 rfl) (by rfl) T.list (by decide +kernel) (pa_cons (pe_bm0 PySem.F.plainAttrs_dict PySem.F.slot_dict_items PySem.F.type_dict_items DX.mt_itemsT (pv 0)) pa_nil))) (pa_cons (PE.or (LiI.pe_listItems rfl (pv 1) (by rfl) T.list PyProof.Rows.Boot.list) (pe_callTy (cr_itemsL2 rfl) (by rfl) T.list (by decide +kernel) (pa_cons (pe_bm0 PySem.F.plainAttrs_dict PySem.F.slot_dict_items PySem.F.type_dict_items DX.mt_itemsT (pv 1)) pa_nil))) pa_nil)))))))
        pss_nil)
      (pss_cons (ps_if (pt_val (pe_callB call_isi (by rfl) T.isi PyProof.Rows.Boot.isinstance (pa_cons (pv 1) (pa_cons (pe_bltn (v := .ty "int") (by rfl) T.int PyProof.Rows.Boot.int rfl) pa_nil))))
        (pss_one (ps_ret (pe_and (pe_callB call_isi (by rfl) T.isi PyProof.Rows.Boot.isinstance (pa_cons (pv 0) (pa_cons (pe_bltn (v := .ty "int") (by rfl) T.int PyProof.Rows.Boot.int rfl) pa_nil)))
          (pe_and (pe_cmpR op_eq (pe_callB call_isi (by rfl) T.isi PyProof.Rows.Boot.isinstance (pa_cons (pv 0) (pa_cons (pe_bltn (v := .ty "bool") (by rfl) T.bool PyProof.Rows.Boot.bool rfl) pa_nil))) (pe_callB call_isi (by rfl) T.isi PyProof.Rows.Boot.isinstance (pa_cons (pv 1) (pa_cons (pe_bltn (v := .ty "bool") (by rfl) T.bool PyProof.Rows.Boot.bool rfl) pa_nil))) (nomark _))
          (pe_one (pe_cmpR op_eq (pv 0) (pv 1) (nomark _)))))))
        pss_nil)
      (pss_one (ps_ret (pe_and (pe_not (pe_callB call_isiT (by rfl) T.isi PyProof.Rows.Boot.isinstance (pa_cons (pv 0) (pa_cons (pe_tup (pa_cons (pe_bltn (v := .ty "int") (by rfl) T.int PyProof.Rows.Boot.int rfl) (pa_cons (pe_bltn (v := .ty "list") (by rfl) T.list PyProof.Rows.Boot.list rfl) (pa_cons (pe_bltn (v := .ty "tuple") (by rfl) T.tuple PyProof.Rows.Boot.tuple rfl) (pa_cons (pe_bltn (v := .ty "dict") (by rfl) T.dict PyProof.Rows.Boot.dict rfl) pa_nil))))) pa_nil))))
        (pe_one (pe_cmpR op_eq (pv 0) (pv 1) (nomark _)))))))), ?_⟩
    refine ⟨_, rfl, (by show 2 ≤ sizeLine; decide), fun q nq => ?_⟩
    have g1 := same_upd (o := .tup [.ty "list", .ty "tuple"]) nq
    by_cases sc : scG x y
    · obtain ⟨rfl, z⟩ := sc
      rcases z with ⟨s, rfl⟩ | ⟨i, rfl⟩ | ⟨b, rfl⟩ | rfl
      · refine ⟨.str s, q, _, .type "str", _, false, rfl, upd_same, .cons (.ty _) (.cons (.ty _) .nil), .base (.str s), kitAny_cons (b := false) (kit_ty (by decide +kernel)) (fun _ => kitAny_cons (b := false) (kit_ty (by decide +kernel)) (fun _ => kitAny_nil) fun z => by cases z) (fun z => by cases z), _, rfl, iteF ?_⟩
        refine ⟨_, rfl, .str s, .ty "dict", _, _, false, rfl, .ty _, .base (.str s), kit_ty (by decide +kernel), _, rfl, iteF ?_⟩
        refine ⟨_, rfl, .str s, .ty "int", _, _, false, rfl, .ty _, .base (.str s), kit_ty (by decide +kernel), _, rfl, iteF ?_⟩
        refine ⟨_, rfl, (by show 4 ≤ sizeLine; decide), fun q2 nq2 => ?_⟩
        refine ⟨.str s, q2, _, .type "str", _, false, rfl, upd_same, .cons (.ty _) (.cons (.ty _) (.cons (.ty _) (.cons (.ty _) .nil))), .base (.str s), kitAny_cons (b := false) (kit_ty (by decide +kernel)) (fun _ => kitAny_cons (b := false) (kit_ty (by decide +kernel)) (fun _ => kitAny_cons (b := false) (kit_ty (by decide +kernel)) (fun _ => kitAny_cons (b := false) (kit_ty (by decide +kernel)) (fun _ => kitAny_nil) fun z => by cases z) fun z => by cases z) fun z => by cases z) (fun z => by cases z), false, rfl, true, rfl, iteT ?_⟩
        refine ⟨_, rfl, _, rfl, rfl, ?_⟩
        rw [decide_eq_true rfl]
        exact kk _ (Same.trans g1 (same_upd nq2))
      · refine ⟨.int i, q, _, .type "int", _, false, rfl, upd_same, .cons (.ty _) (.cons (.ty _) .nil), .base (.int i), kitAny_cons (b := false) (kit_ty (by decide +kernel)) (fun _ => kitAny_cons (b := false) (kit_ty (by decide +kernel)) (fun _ => kitAny_nil) fun z => by cases z) (fun z => by cases z), _, rfl, iteF ?_⟩
        refine ⟨_, rfl, .int i, .ty "dict", _, _, false, rfl, .ty _, .base (.int i), kit_ty (by decide +kernel), _, rfl, iteF ?_⟩
        refine ⟨_, rfl, .int i, .ty "int", _, _, true, rfl, .ty _, .base (.int i), kit_ty (by decide +kernel), _, rfl, iteT ?_⟩
        refine ⟨_, rfl, .int i, .ty "int", _, _, true, rfl, .ty _, .base (.int i), kit_ty (by decide +kernel), true, rfl, iteT ?_⟩
        refine ⟨_, rfl, .int i, .ty "bool", _, _, false, rfl, .ty _, .base (.int i), kit_ty (by decide +kernel), _, rfl, .int i, .ty "bool", _, _, false, rfl, .ty _, .base (.int i), kit_ty (by decide +kernel), rfl, true, rfl, iteT ?_⟩
        refine ⟨_, rfl, _, rfl, rfl, ?_⟩
        rw [decide_eq_true rfl]
        exact kk _ g1
      · refine ⟨.bl b, q, _, .type "bool", _, false, rfl, upd_same, .cons (.ty _) (.cons (.ty _) .nil), .base (.bl b), kitAny_cons (b := false) (kit_ty (by decide +kernel)) (fun _ => kitAny_cons (b := false) (kit_ty (by decide +kernel)) (fun _ => kitAny_nil) fun z => by cases z) (fun z => by cases z), _, rfl, iteF ?_⟩
        refine ⟨_, rfl, .bl b, .ty "dict", _, _, false, rfl, .ty _, .base (.bl b), kit_ty (by decide +kernel), _, rfl, iteF ?_⟩
        refine ⟨_, rfl, .bl b, .ty "int", _, _, true, rfl, .ty _, .base (.bl b), kit_ty (by decide +kernel), _, rfl, iteT ?_⟩
        refine ⟨_, rfl, .bl b, .ty "int", _, _, true, rfl, .ty _, .base (.bl b), kit_ty (by decide +kernel), true, rfl, iteT ?_⟩
        refine ⟨_, rfl, .bl b, .ty "bool", _, _, true, rfl, .ty _, .base (.bl b), kit_ty (by decide +kernel), _, rfl, .bl b, .ty "bool", _, _, true, rfl, .ty _, .base (.bl b), kit_ty (by decide +kernel), rfl, true, rfl, iteT ?_⟩
        refine ⟨_, rfl, _, rfl, rfl, ?_⟩
        rw [decide_eq_true rfl]
        exact kk _ g1
      · refine ⟨.non, q, _, .type "NoneType", _, false, rfl, upd_same, .cons (.ty _) (.cons (.ty _) .nil), .base .non, kitAny_cons (b := false) (kit_ty (by decide +kernel)) (fun _ => kitAny_cons (b := false) (kit_ty (by decide +kernel)) (fun _ => kitAny_nil) fun z => by cases z) (fun z => by cases z), _, rfl, iteF ?_⟩
        refine ⟨_, rfl, .non, .ty "dict", _, _, false, rfl, .ty _, .base .non, kit_ty (by decide +kernel), _, rfl, iteF ?_⟩
        refine ⟨_, rfl, .non, .ty "int", _, _, false, rfl, .ty _, .base .non, kit_ty (by decide +kernel), _, rfl, iteF ?_⟩
        refine ⟨_, rfl, (by show 4 ≤ sizeLine; decide), fun q2 nq2 => ?_⟩
        refine ⟨.non, q2, _, .type "NoneType", _, false, rfl, upd_same, .cons (.ty _) (.cons (.ty _) (.cons (.ty _) (.cons (.ty _) .nil))), .base .non, kitAny_cons (b := false) (kit_ty (by decide +kernel)) (fun _ => kitAny_cons (b := false) (kit_ty (by decide +kernel)) (fun _ => kitAny_cons (b := false) (kit_ty (by decide +kernel)) (fun _ => kitAny_cons (b := false) (kit_ty (by decide +kernel)) (fun _ => kitAny_nil) fun z => by cases z) fun z => by cases z) fun z => by cases z) (fun z => by cases z), false, rfl, true, rfl, iteT ?_⟩
        refine ⟨_, rfl, _, rfl, rfl, ?_⟩
        rw [decide_eq_true rfl]
        exact kk _ (Same.trans g1 (same_upd nq2))
    cases tw with
    | sc h => exact absurd h sc
    | @lst n a b xs ys ha hb hl le pa =>
      have ha1 := g1 _ _ ha
      have hb1 := g1 _ _ hb
      have le2 := le
      refine ⟨.ref b, q, _, .type "list", _, true, rfl, upd_same, .cons (.ty _) (.cons (.ty _) .nil), .base (.lst hb1), kitAny_cons (b := true) (kit_ty (by decide +kernel)) (fun z => by cases z) (fun _ => rfl), _, rfl, iteT ?_⟩
      refine ⟨_, rfl, .ref a, .ty "list", _, _, true, rfl, .ty _, .base (.lst ha1), kit_ty (by decide +kernel), _, rfl, .ref b, .ty "list", _, _, true, rfl, .ty _, .base (.lst hb1), kit_ty (by decide +kernel), rfl, _, rfl, iteF2 (by rfl) ?_⟩
      refine ⟨_, rfl, .ref a, .ty "tuple", _, _, false, rfl, .ty _, .base (.lst ha1), kit_ty (by decide +kernel), _, rfl, .ref b, .ty "tuple", _, _, false, rfl, .ty _, .base (.lst hb1), kit_ty (by decide +kernel), rfl, _, rfl, iteF2 (by rfl) ?_⟩
      refine ⟨_, rfl, a, _, rfl, .inl (SqL.of ha1), _, rfl, b, _, rfl, .inl (SqL.of hb1), rfl, true, ?_, iteT ?_⟩
      · rw [le2, decide_eq_true rfl]
      refine ⟨_, rfl, _, rfl, a, b, _, _, rfl, .inl ⟨SqL.of ha1, SqL.of hb1, fun B hB => ?_⟩⟩
      refine lc_it (walk_zip (xs := xs) (ys := ys) (n := xs.length) (by rw [le2, Nat.min_self])) (fun j H' => H' B = some (.lst ((List.replicate j true).map V.bl)) ∧ Same (upd H q (.tup [.ty "list", .ty "tuple"])) H') ⟨upd_same, same_upd hB⟩ (fun j H' _ g => ⟨SqL.of (g.2 _ _ ha1), SqL.of (g.2 _ _ hb1)⟩) ?_ ?_
      · rintro j v H' H'' hj ⟨w1, w2⟩ ⟨T0, x0, y0, rfl, nT, rfl, e3, e4⟩
        have f2 := pa _ _ _ e3 e4
        have u1 := same_upd (o := .tup [x0, y0]) nT
        have gx : Same H _ := Same.trans (Same.trans g1 w2) u1
        refine ⟨T0, _, rfl, SqT.of upd_same, rfl, _, _, rfl, _, _, rfl, rfl, rfl, ?_⟩
        refine ⟨_, rfl, _, rfl, x0, y0, rfl, Tg.up gx f2, fun H3 g3 => ⟨_, g3 _ _ (u1 _ _ w1), ?_, ?_, same_put (Same.trans (Same.trans w2 u1) g3) hB⟩⟩
        · rw [List.length_map, List.length_replicate]
          exact Nat.lt_of_lt_of_le (Nat.lt_trans hj hl) (by decide)
        · rw [upd_same, List.replicate_succ', List.map_append]
          rfl
      · rintro H' ⟨w1, w2⟩
        refine ⟨B, List.replicate xs.length true, rfl, .inl (.inl w1), ?_⟩
        have e : (List.replicate xs.length true).all id = true := List.all_eq_true.mpr fun b hb => (List.eq_of_mem_replicate hb)
        rw [e]
        exact kk _ (Same.trans g1 w2)
    | @tup n a b xs ys ha hb hl le pa =>
      have ha1 := g1 _ _ ha
      have hb1 := g1 _ _ hb
      have le2 := le
      refine ⟨.ref b, q, _, .type "tuple", _, true, rfl, upd_same, .cons (.ty _) (.cons (.ty _) .nil), .base (.tup hb1), kitAny_cons (b := false) (kit_ty (by decide +kernel)) (fun _ => kitAny_cons (b := true) (kit_ty (by decide +kernel)) (fun z => by cases z) fun _ => rfl) (fun z => by cases z), _, rfl, iteT ?_⟩
      refine ⟨_, rfl, .ref a, .ty "list", _, _, false, rfl, .ty _, .base (.tup ha1), kit_ty (by decide +kernel), _, rfl, .ref b, .ty "list", _, _, false, rfl, .ty _, .base (.tup hb1), kit_ty (by decide +kernel), rfl, _, rfl, iteF2 (by rfl) ?_⟩
      refine ⟨_, rfl, .ref a, .ty "tuple", _, _, true, rfl, .ty _, .base (.tup ha1), kit_ty (by decide +kernel), _, rfl, .ref b, .ty "tuple", _, _, true, rfl, .ty _, .base (.tup hb1), kit_ty (by decide +kernel), rfl, _, rfl, iteF2 (by rfl) ?_⟩
      refine ⟨_, rfl, a, _, rfl, .inr (SqT.of ha1), _, rfl, b, _, rfl, .inr (SqT.of hb1), rfl, true, ?_, iteT ?_⟩
      · rw [le2, decide_eq_true rfl]
      refine ⟨_, rfl, _, rfl, a, b, _, _, rfl, .inr ⟨SqT.of ha1, SqT.of hb1, fun B hB => ?_⟩⟩
      refine lc_it (walk_two (xs := xs) (ys := ys) le2) (fun j H' => H' B = some (.lst ((List.replicate j true).map V.bl)) ∧ Same (upd H q (.tup [.ty "list", .ty "tuple"])) H') ⟨upd_same, same_upd hB⟩ (fun j H' _ g => ⟨SqT.of (g.2 _ _ ha1), SqT.of (g.2 _ _ hb1)⟩) ?_ ?_
      · rintro j v H' H'' hj ⟨w1, w2⟩ ⟨T0, x0, y0, rfl, nT, rfl, e3, e4⟩
        have f2 := pa _ _ _ e3 e4
        have u1 := same_upd (o := .tup [x0, y0]) nT
        have gx : Same H _ := Same.trans (Same.trans g1 w2) u1
        refine ⟨T0, _, rfl, SqT.of upd_same, rfl, _, _, rfl, _, _, rfl, rfl, rfl, ?_⟩
        refine ⟨_, rfl, _, rfl, x0, y0, rfl, Tg.up gx f2, fun H3 g3 => ⟨_, g3 _ _ (u1 _ _ w1), ?_, ?_, same_put (Same.trans (Same.trans w2 u1) g3) hB⟩⟩
        · rw [List.length_map, List.length_replicate]
          exact Nat.lt_of_lt_of_le (Nat.lt_trans hj hl) (by decide)
        · rw [upd_same, List.replicate_succ', List.map_append]
          rfl
      · rintro H' ⟨w1, w2⟩
        refine ⟨B, List.replicate xs.length true, rfl, .inl (.inl w1), ?_⟩
        have e : (List.replicate xs.length true).all id = true := List.all_eq_true.mpr fun b hb => (List.eq_of_mem_replicate hb)
        rw [e]
        exact kk _ (Same.trans g1 w2)
    | @dK n a b kvs kvs' ha hb hl ke h =>
      have ha1 := g1 _ _ ha
      have hb1 := g1 _ _ hb
      refine ⟨.ref b, q, _, .type "dict", _, false, rfl, upd_same, .cons (.ty _) (.cons (.ty _) .nil), .base (.dK hb1), kitAny_cons (b := false) (kit_ty (by decide +kernel)) (fun _ => kitAny_cons (b := false) (kit_ty (by decide +kernel)) (fun _ => kitAny_nil) fun z => by cases z) (fun z => by cases z), _, rfl, iteF ?_⟩
      refine ⟨_, rfl, .ref b, .ty "dict", _, _, true, rfl, .ty _, .base (.dK hb1), kit_ty (by decide +kernel), _, rfl, iteT ?_⟩
      refine ⟨_, rfl, .ref a, .ty "dict", _, _, true, rfl, .ty _, .base (.dK ha1), kit_ty (by decide +kernel), true, rfl, iteT ?_⟩
      refine .inl ⟨_, rfl, a, _, rfl, ha1, fun H2 p ts k2 np _ _ ep tp => ?_⟩
      refine .inl ⟨_, rfl, b, _, rfl, k2 _ _ hb1, fun H3 p' us k3 np' _ _ ep' tp' => ?_⟩
      have tw : Tg H3 (n + 2) (.ref p) (.ref p') := by
        have lt : ts.length = kvs.length := paired_len tp
        have lu : us.length = kvs'.length := paired_len tp'
        have lk : kvs.length = kvs'.length := by
          have := congrArg List.length ke
          rwa [List.length_map, List.length_map] at this
        refine .lst (k3 _ _ ep) ep' (by rw [List.length_map, lt]; exact hl) (by rw [List.length_map, List.length_map, lt, lu, lk]) fun i x y e1 e2 => ?_
        rw [List.getElem?_map] at e1 e2
        obtain ⟨t, et, rfl⟩ := Option.map_eq_some_iff.mp e1
        obtain ⟨u, eu, rfl⟩ := Option.map_eq_some_iff.mp e2
        obtain ⟨kv, f1, f2⟩ := paired_at tp et
        obtain ⟨kv', f3, f4⟩ := paired_at tp' eu
        have ek : kv.1 = kv'.1 := by
          have z1 : (kvs.map (·.1))[i]? = some kv.1 := by rw [List.getElem?_map, f1]; rfl
          have z2 : (kvs'.map (·.1))[i]? = some kv'.1 := by rw [List.getElem?_map, f3]; rfl
          rw [ke] at z1
          exact Option.some.inj (z1.symm.trans z2)
        refine .tup (k3 _ _ f2) f4 (by show 2 < 100000; decide) rfl (Tg.two (.sc ?_) ?_)
        · rw [← ek]
          obtain ⟨kk, v⟩ := kv
          cases kk with
          | inl i => exact .int i
          | inr s => exact .str s
        · exact Tg.up (fun x o e => k3 _ _ (k2 _ _ (g1 _ _ e))) (h _ _ _ f1 f3)
      exact ⟨.ref p, .ref p', rfl, tw, fun H4 g4 => kk _ fun x o e => g4 _ _ (k3 _ _ (k2 _ _ (g1 _ _ e)))⟩
    | @dT n a b ps c ha hb hl =>
      have ha1 := g1 _ _ ha
      have hb1 := g1 _ _ hb
      refine ⟨.ref b, q, _, .type "dict", _, false, rfl, upd_same, .cons (.ty _) (.cons (.ty _) .nil), .base (.dT hb1), kitAny_cons (b := false) (kit_ty (by decide +kernel)) (fun _ => kitAny_cons (b := false) (kit_ty (by decide +kernel)) (fun _ => kitAny_nil) fun z => by cases z) (fun z => by cases z), _, rfl, iteF ?_⟩
      refine ⟨_, rfl, .ref b, .ty "dict", _, _, true, rfl, .ty _, .base (.dT hb1), kit_ty (by decide +kernel), _, rfl, iteT ?_⟩
      refine ⟨_, rfl, .ref a, .ty "dict", _, _, true, rfl, .ty _, .base (.dT ha1), kit_ty (by decide +kernel), true, rfl, iteT ?_⟩
      refine .inr ⟨_, rfl, .inr (.inr (.inl ⟨rfl, .inr ⟨_, ha1⟩⟩)), a, _, rfl, rfl, ha1, fun v1 nv1 => ?_⟩
      have s1 := same_upd (o := DX.itemsO v1 a) nv1
      refine ⟨v1, a, _, rfl, upd_same, s1 _ _ ha1, fun H2 l1 ts1 qs1 g2 nl1 e1 pq1 pt1 => ?_⟩
      have hb2 := g2.s _ _ (s1 _ _ hb1)
      refine .inr ⟨_, rfl, .inr (.inr (.inl ⟨rfl, .inr ⟨_, hb2⟩⟩)), b, _, rfl, rfl, hb2, fun v2 nv2 => ?_⟩
      have s2 := same_upd (o := DX.itemsO v2 b) nv2
      refine ⟨v2, b, _, rfl, upd_same, s2 _ _ hb2, fun H3 l2 ts2 qs2 g3 nl2 e2 pq2 pt2 => ?_⟩
      obtain ⟨L1, el1, pl1⟩ := its_of g2.s pq1 pt1
      obtain ⟨L2, el2, pl2⟩ := its_of g3.s pq2 pt2
      have s23 : Same H2 H3 := Same.trans s2 g3.s
      have tw : Tg H3 (n + 3) (.ref l1) (.ref l2) := by
        refine Tg.of ?_
        show Tn H3 (n + 3) (.ref l1) (.ref l2)
        refine .inr (.inl ⟨l1, l2, _, _, rfl, rfl, s23 _ _ e1, e2, ?_, ?_⟩)
        · rw [List.length_map, paired_len pl1, ← List.length_map (f := fun x : Ed × Addr => x.1), el1]
          exact hl
        have go : ∀ {L1 L2 : List (Ed × Addr)} {ts us : List Addr}, L1.map (·.1) = L2.map (·.1) → Paired (Its H2 c) ts L1 → Paired (Its H3 c) us L2 → Paired (Tn H3 (n + 2)) (ts.map V.ref) (us.map V.ref) := fun {L1} => by
          induction L1 with
          | nil =>
            intro L2 ts us e h1 h2
            cases L2 with
            | cons _ _ => cases e
            | nil =>
              cases h1
              cases h2
              exact .nil
          | cons x L1 ih =>
            intro L2 ts us e h1 h2
            cases L2 with
            | nil => cases e
            | cons y L2 =>
              rw [List.map_cons, List.map_cons] at e
              obtain ⟨ex, et⟩ := List.cons.inj e
              cases h1 with
              | cons r1 h1 =>
                cases h2 with
                | cons r2 h2 =>
                  obtain ⟨⟨x1, x2⟩, xa⟩ := x
                  obtain ⟨⟨y1, y2⟩, ya⟩ := y
                  obtain ⟨rfl, rfl⟩ := Prod.mk.inj ex
                  refine .cons (.inr (.inr (.inl ⟨_, _, _, _, rfl, rfl, s23 _ _ r1.1, r2.1, (show 2 < 100000 by decide), .cons ?_ (.cons (Tn.sc ⟨rfl, .inr (.inl ⟨_, rfl⟩)⟩) .nil)⟩))) (ih et h1 h2)
                  exact .inr (.inr (.inl ⟨_, _, _, _, rfl, rfl, s23 _ _ r1.2, r2.2, (show 2 < 100000 by decide), .cons (Tn.sc ⟨rfl, .inl ⟨_, rfl⟩⟩) (.cons (Tn.sc ⟨rfl, .inl ⟨_, rfl⟩⟩) .nil)⟩))
        exact go (el1.trans el2.symm) pl1 pl2
      exact ⟨.ref l1, .ref l2, rfl, tw, fun H4 g4 => kk _ fun x o e => g4 _ _ (s23 _ _ (g2.s _ _ (s1 _ _ (g1 _ _ e))))⟩
/-- _law_same, of each depth, at its name -/
theorem sameG_stands {f : Addr} {fd : FuncData} (F : Fun K "_law_same" "_law_same" s_law_same f fd) (T : TxtSm mg) (m : mg "_law_same" = some (.ref f)) (kk : PySem.W.keepIn K (.ref f) = true) (b : L2.Binds K fd ["found", "due"] []) : ∀ n, Stands P w K mg base (n + 1) "_law_same" ["found", "due"] (spSG n)
  | 0 => ⟨f, fd, ok_sameG (n := 0) F T ⟨f, fd, ⟨fun _ _ _ _ h => False.elim h, fun _ _ _ _ _ _ _ _ _ _ _ _ _ h => False.elim h⟩, m, kk, b⟩, m, kk, b⟩
  | n + 1 => ⟨f, fd, ok_sameG (n := n + 1) F T (sameG_stands F T m kk b n), m, kk, b⟩
end
end Lamp
set_option maxHeartbeats 1000000
namespace Lamp
/-! k01: a lambda inside a comprehension that captures the comprehension name: the reading of the last statement of _law_refused_right (a model, nothing stands on it) -/
open PySem PySem.Spec PyProof.Rows L2
open LamX (CodeO TabS Tabs ExtN TabB GivesTo tLam lamCx lamEnv LamS)
abbrev NQf : List Str := ["stream", "rooms", "doors", "at", "odd", "bad", "dues", "some", "due"]
theorem scQf : FnScope NQf ["stream", "rooms", "doors"] (defScope s_law_refused_right) := ⟨rfl, rfl, rfl, by decide +kernel, rfl, by decide +kernel, by decide +kernel⟩
def lastS : Stmt := (defBody s_law_refused_right).getLast!
def compSc : Scope := match lastS with
  | .Return (some (.Call _ [.ListComp _ _ sc _] _ _)) _ => sc
  | _ => defScope lastS
def compSd : Scope := { compSc with names := compSc.names.map fun (n, k) => if (k == NameKind.free) then (n, NameKind.cell) else (n, k) }
theorem lamS_via {sc sc' scope : Scope} (e : sc = sc') (h : LamX.lamSB sc' scope = true) : LamX.LamS sc scope := by
  rw [e]
  exact LamX.lamS_by h
section
variable {P : Program} {w : World} {K : PySem.W.Frag} {mg : Str → Option Value} {base : Heap} {C CR CD CN CM : Addr} {T : List (Addr × Str)}
theorem tst {f fI c P0 : Addr} {cdv : Value} {dI : FuncData} {sp : Sp} (TB : TabB base mg c P0) (hmT : (P0, ("_law_refused_right.<locals>.<lambda>" : Str)) ∈ T) (hu : ∀ p ∈ T, p.1 = P0 → p.2 = ("_law_refused_right.<locals>.<lambda>" : Str)) (allN : mg "all" = none)
    (EO : Stands P w K mg base 6 "_law_same" ["found", "due"] (spSG 5)) (MF : MetsF K mg (mcs1 CR CD CN CM)) (A : Around) (outer : List Env) (s : Shared) (H : Hp) (E : XK) (hr : Room 9 (A.deeper (envOfC (Str.ofString "_law_refused_right") (defScope s_law_refused_right) s.heap.objs.size f (.ref c))))
    (M : Mk K C fI) (GI : FnOk P w K mg base (L2.CX P w) 4 fI dI ["self", "rooms", "doors"] sp) (mC : mg "House" = some (.ref C)) (bI : L2.Binds K dI ["self", "rooms", "doors"] []) :
    ∃ t, PS (cxOf CX0 P w K mg base NQf (Str.ofString "_law_refused_right") (defScope s_law_refused_right) f (.ref c) A outer s H E).nox lastS t := by
  obtain ⟨fe, de, Ge, me, ke, be⟩ := EO
  refine ⟨_, ps_ret (pe_callB (cr_all rfl) (by rfl) allN PyProof.Rows.Boot.all (pa_cons
    (pe_lc (te := tCall (spSG 5) [] E0 (tCons (tLam T (TMets K (mcs1 CR CD CN CM)) (fun E => tMake C sp [] E (tCons (tVar 1) (tCons (tVar 7) tNil)))) (tCons (tTup (tCons (tC (.str "doors")) (tCons (tVar 8) tNil))) tNil))) (own := [("some", 7), ("due", 8)]) (g := gTup K 2 (gCons (gName 7) (gCons (gName 8) gNil))) (tt := tYes) rfl scQf.nd (pi_list (pv 6)) (blkOk_by (N := NQf) (sc := defScope s_law_refused_right) (by decide +kernel))
      (fun _ _ _ _ _ => pg_tup rfl (pgs_cons (pg_name (i := 7) scQf.nd rfl (Or.inr rfl)) (pgs_cons (pg_name (i := 8) scQf.nd rfl (Or.inl rfl)) pgs_nil))) (fun _ _ _ _ _ => pts_nil)
      (fun _ _ _ _ _ => by exact (pe_call Ge (hr.mono (by decide)) (by rfl) me ke be .nil pass0 (pa_cons (pe_mets (k := 5) (t := fun E => tMake C sp [] E (tCons (tVar 1) (tCons (tVar 7) tNil))) MF (by rfl) TB rfl hmT hu (hr.mono (by decide)) (lamS_via (sc' := compSd) (by rfl) (by decide +kernel)) rfl (fun _ _ _ _ _ => rfl)
              (fun A outer s H E f c' hr => pe_make M GI hr (by rfl) mC bI .nil (passes_call (takes_of rfl rfl rfl rfl) fun _ _ _ _ z => z) (pa_cons (pv 1) (pa_cons (pv 7) pa_nil)))) (pa_cons (pe_tup (pa_cons pe_str (pa_cons (pv 8) pa_nil))) pa_nil))))) pa_nil))⟩
end
end Lamp
set_option maxHeartbeats 4000000
namespace Lamp
open PySem PySem.Spec PyProof.Rows L2
open LamX (CodeO TabS Tabs ExtN TabB GivesTo tLam lamCx lamEnv LamS)
/-! ### _law_refused_right -/
/-- all but the spring and the tables is as it was -/
def GsN (a l : Addr) (H H' : Hp) : Prop := ∀ b o, H b = some o → (∀ ps, o ≠ .tbl ps) → b ≠ a → (b = l → o = .lst []) → H' b = some o
theorem GsN.gs {a l : Addr} {H H' : Hp} (g : Gs a l H H') : GsN a l H H' := fun b o h _ n1 n2 => g.s b o h n1 n2
theorem GsN.ext {a l : Addr} {H H' : Hp} (e : ExtN H H') : GsN a l H H' := fun b o h n _ _ => e b o h n
theorem GsN.trans {a l : Addr} {H H1 H2 : Hp} (p : GsN a l H H1) (q : GsN a l H1 H2) : GsN a l H H2 := fun b o h n x y => q b o (p b o h n x y) n x y
theorem GsN.keep {a l b : Addr} {H H' : Hp} {n : Nat} {o : HO} (g : GsN a l H H') (p : Spr H a l n) (h : H b = some o) (ok : okO o = true) (nt : ∀ ps, o ≠ .tbl ps) : H' b = some o := by
  obtain ⟨ne, cs, cur, mix, h1, h2, _, _⟩ := p
  refine g b o h nt (fun z => ?_) (fun z => ?_)
  · rw [z, h1] at h
    rw [← Option.some.inj h] at ok
    cases ok
  · rw [z, h2] at h
    rw [← Option.some.inj h] at ok ⊢
    cases cs with
    | nil => rfl
    | cons c cs => cases ok
theorem TupsAt.gsN {a l : Addr} {n : Nat} {H H' : Hp} {ts : List Addr} {es : List Ed} (h : TupsAt H ts es) (p : Spr H a l n) (g : GsN a l H H') : TupsAt H' ts es := Paired.imp (fun _ _ e => g.keep p e rfl fun _ z => by cases z) h
theorem paired_take {α β : Type} {R : α → β → Prop} : ∀ {xs : List α} {ys : List β}, Paired R xs ys → ∀ m, Paired R (xs.take m) (ys.take m)
  | [], [], .nil, m => by simp only [List.take_nil]; exact .nil
  | _ :: _, _ :: _, .cons r q, 0 => .nil
  | _ :: _, _ :: _, .cons r q, m + 1 => .cons r (paired_take q m)
theorem tups_up {H H' : Hp} {ts : List Addr} {es : List Ed} (h : TupsAt H ts es) (s : Same H H') : TupsAt H' ts es := Paired.imp (fun _ _ e => s _ _ e) h
theorem tups_take {H : Hp} {ts : List Addr} {es : List Ed} (h : TupsAt H ts es) (m : Nat) : TupsAt H (ts.take m) (es.take m) := paired_take h m
theorem doors_refs {K : PySem.W.Frag} {H : Hp} {rs : List Str} : ∀ {ts : List Addr} {es : List Ed}, TupsAt H ts es → (∀ e ∈ es, e.1 ∈ rs ∧ e.2 ∈ rs ∧ e.1 ≠ e.2) → Paired (fun u e => DoorV K H rs u (some e)) (ts.map V.ref) es
  | [], [], .nil, _ => .nil
  | t :: ts, e :: es, .cons h q, m => .cons ⟨t, rfl, .inr ⟨SqT.of h, fun H' s => .base (.tup (s _ _ h))⟩, m e List.mem_cons_self⟩ (doors_refs q fun x hx => m x (List.mem_cons_of_mem _ hx))
section
variable {P : Program} {w : World} {K : PySem.W.Frag} {mg : Str → Option Value} {base : Heap} {C CR CD CN CM : Addr} {T : List (Addr × Str)}
def spRefR (T : List (Addr × Str)) : Sp := fun vs H Q _ => ∃ (a l p q : Addr) (n : Nat) (rs : List Str) (ts : List Addr) (es : List Ed), vs = [.ref a, .ref p, .ref q] ∧ Spr H a l n ∧ n ≤ 800000 ∧ Tabs T H ∧ H p = some (.lst (rs.map V.str)) ∧ H q = some (.lst (ts.map V.ref)) ∧ TupsAt H ts es ∧
  GoodH rs es ∧ rs.length ≤ 12 ∧ es.length < 30 ∧ (∀ r ∈ rs, NokN r) ∧ (es.length + 1 = rs.length) ∧
  ∀ H' n', n' ≤ n + 100 → GsN a l H H' → Spr H' a l n' → Tabs T H' → Q (.bl true) H'
theorem ok_refR {f fI c P0 : Addr} {fd dI : FuncData} (F : FunC K "_law_refused_right" s_law_refused_right f c fd) (TX : TxtS mg) (TB : TabB base mg c P0) (hmT : (P0, ("_law_refused_right.<locals>.<lambda>" : Str)) ∈ T) (hu : ∀ p ∈ T, p.1 = P0 → p.2 = ("_law_refused_right.<locals>.<lambda>" : Str)) (allN : mg "all" = none)
    (EO : Stands P w K mg base 6 "_law_same" ["found", "due"] (spSG 5)) (DO : Stands P w K mg base 1 "_law_draw" ["stream", "many"] spDraw) (PO : Stands P w K mg base 2 "_law_pick" ["stream", "some"] spPickV) (NO : Stands P w K mg base 3 "_law_odd_name" ["stream"] spOddN) (OO : Stands P w K mg base 3 "_law_odd_door" ["stream", "rooms", "doors"] spOddD)
    (MF : MetsF K mg (mcs1 CR CD CN CM)) (M : Mk K C fI) (GI : FnOk P w K mg base (L2.CX P w) 4 fI dI ["self", "rooms", "doors"] (spInitA K C CR CD CN)) (mC : mg "House" = some (.ref C)) (bI : L2.Binds K dI ["self", "rooms", "doors"] []) :
    FnOk P w K mg base CX0 10 f fd ["stream", "rooms", "doors"] (spRefR T) := by
  obtain ⟨fe, de, Ge, me, ke, be⟩ := EO
  obtain ⟨fd', dd, Gd, md, kd, bd⟩ := DO
  obtain ⟨fp, dp, Gp, mp, kp, bp⟩ := PO
  obtain ⟨fn, dn, Gn, mn, kn, bn⟩ := NO
  obtain ⟨fo, do_, Go, mo, ko, bo⟩ := OO
  refine funC_ok F scQf (fun vs H Q E h => ?_) (fun A outer s H vs Q E hr h => ?_)
  · obtain ⟨a, l, p, q, n, rs, ts, es, rfl, _⟩ := h
    rfl
  · obtain ⟨a, l, p, q, n, rs, ts, es, rfl, hS, hn, tT, hp, hq, ht, gd, lrs, les, nok, lee, k⟩ := h
    refine ⟨_, pss_cons (ps_set (i := 3) scQf.nd rfl (Or.inl rfl) (pe_call Gd (hr.mono (by decide)) (by rfl) md kd bd .nil pass0 (pa_cons (pv 0) (pa_cons (pe_op op_add (pe_callB call_len_seq (by rfl) TX.len PySem.boot_len (pa_cons (pv 1) pa_nil)) pe_int) pa_nil))))
      (pss_cons (ps_set (i := 4) scQf.nd rfl (Or.inl rfl) (pe_call Gp (hr.mono (by decide)) (by rfl) mp kp bp .nil pass0 (pa_cons (pv 0) (pa_cons (pe_op op_cat (pe_lst (pa_cons (pe_call Gn (hr.mono (by decide)) (by rfl) mn kn bn .nil pass0 (pa_cons (pv 0) pa_nil)) pa_nil)) (pe_slice sl_list (pv 1) po_none (po_some (pv 3)))) pa_nil))))
      (pss_cons (ps_set (i := 5) scQf.nd rfl (Or.inr rfl) (pe_call Gp (hr.mono (by decide)) (by rfl) mp kp bp .nil pass0 (pa_cons (pv 0) (pa_cons (pe_lst (pa_cons (pv 2) (pa_cons pe_non (pa_cons (pe_lst (pa_cons pe_int pa_nil)) pa_nil)))) pa_nil))))
      (pss_cons (ps_set (i := 6) scQf.nd rfl (Or.inl rfl) (pe_lst (pa_cons (pe_tup (pa_cons (pe_op op_cat (pe_op op_cat (pe_op op_cat (pe_slice sl_list (pv 1) po_none (po_some (pv 3))) (pe_lst (pa_cons (pv 4) pa_nil))) (pe_slice sl_list (pv 1) (po_some (pv 3)) po_none)) (pe_lst (pa_cons pe_non pa_nil))) (pa_cons (pv 3) pa_nil)))
          (pa_cons (pe_tup (pa_cons pe_non (pa_cons pe_int pa_nil))) (pa_cons (pe_tup (pa_cons (pe_lst pa_nil) (pa_cons pe_int pa_nil))) (pa_cons (pe_tup (pa_cons (pe_tup pa_nil) (pa_cons pe_int pa_nil))) (pa_cons (pe_tup (pa_cons pe_str (pa_cons pe_int pa_nil)))
          (pa_cons (pe_tup (pa_cons pe_dnewK (pa_cons pe_int pa_nil))) (pa_cons (pe_tup (pa_cons pe_int (pa_cons pe_int pa_nil))) pa_nil)))))))))
      (pss_cons (ps_for PassesOwn.never rfl (pi_list (pv 6)) (pg_tup rfl (pgs_cons (pg_name (i := 7) scQf.nd rfl (Or.inr rfl)) (pgs_cons (pg_name (i := 8) scQf.nd rfl (Or.inl rfl)) pgs_nil)))
        (pss_one (ps_if (pt_not (pt_val (pe_call Ge (hr.mono (by decide)) (by rfl) me ke be .nil pass0 (pa_cons (pe_mets (k := 5) (t := tHs K C CR CD CN 7 5) MF (by rfl) TB rfl hmT hu (hr.mono (by decide)) (by exact LamX.lamS_by (sc := defScope s_law_refused_right) (by decide +kernel)) rfl (fun _ _ _ _ _ => rfl)
              (fun A outer s H E f c' hr => pe_make M GI hr (by rfl) mC bI .nil (passes_call (takes_of rfl rfl rfl rfl) fun _ _ _ _ z => z) (pa_cons (pv 7) (pa_cons (pv 5) pa_nil)))) (pa_cons (pe_tup (pa_cons pe_str (pa_cons (pv 8) pa_nil))) pa_nil))))) pss_dead pss_nil)))
      (pss_cons (ps_set (i := 3) scQf.nd rfl (Or.inl rfl) (pe_call Gd (hr.mono (by decide)) (by rfl) md kd bd .nil pass0 (pa_cons (pv 0) (pa_cons (pe_op op_add (pe_callB call_len_seq (by rfl) TX.len PySem.boot_len (pa_cons (pv 2) pa_nil)) pe_int) pa_nil))))
      (pss_cons (ps_set (i := 4) scQf.nd rfl (Or.inl rfl) (pe_call Go (hr.mono (by decide)) (by rfl) mo ko bo .nil pass0 (pa_cons (pv 0) (pa_cons (pv 1) (pa_cons (pe_slice sl_list (pv 2) po_none (po_some (pv 3))) pa_nil)))))
      (pss_cons (ps_set (i := 6) scQf.nd rfl (Or.inl rfl) (pe_lst (pa_cons (pe_tup (pa_cons (pe_op op_cat (pe_op op_cat (pe_op op_cat (pe_slice sl_list (pv 2) po_none (po_some (pv 3))) (pe_lst (pa_cons (pv 4) pa_nil))) (pe_slice sl_list (pv 2) (po_some (pv 3)) po_none)) (pe_lst (pa_cons pe_non pa_nil))) (pa_cons (pv 3) pa_nil)))
          (pa_cons (pe_tup (pa_cons pe_non (pa_cons pe_int pa_nil))) (pa_cons (pe_tup (pa_cons pe_str (pa_cons pe_int pa_nil))) (pa_cons (pe_tup (pa_cons pe_dnewK (pa_cons pe_int pa_nil))) (pa_cons (pe_tup (pa_cons pe_bl (pa_cons pe_int pa_nil))) pa_nil)))))))
      (pss_one (ps_ret (pe_callB (cr_all rfl) (by rfl) allN PyProof.Rows.Boot.all (pa_cons
        (pe_lc (te := tCall (spSG 5) [] E0 (tCons (tLam T (TMets K (mcs1 CR CD CN CM)) (tHs K C CR CD CN 1 7)) (tCons (tTup (tCons (tC (.str "doors")) (tCons (tVar 8) tNil))) tNil))) (own := [("some", 7), ("due", 8)]) (g := gTup K 2 (gCons (gName 7) (gCons (gName 8) gNil))) (tt := tYes) rfl scQf.nd (pi_list (pv 6)) (blkOk_by (N := NQf) (sc := defScope s_law_refused_right) (by decide +kernel))
          (fun _ _ _ _ _ => pg_tup rfl (pgs_cons (pg_name (i := 7) scQf.nd rfl (Or.inr rfl)) (pgs_cons (pg_name (i := 8) scQf.nd rfl (Or.inl rfl)) pgs_nil))) (fun _ _ _ _ _ => pts_nil)
          (fun _ _ _ _ _ => by exact (pe_call Ge (hr.mono (by decide)) (by rfl) me ke be .nil pass0 (pa_cons (pe_mets (k := 5) (t := tHs K C CR CD CN 1 7) MF (by rfl) TB rfl hmT hu (hr.mono (by decide)) (lamS_via (sc' := compSd) (by rfl) (by decide +kernel)) rfl (fun _ _ _ _ _ => rfl)
              (fun A outer s H E f c' hr => pe_make M GI hr (by rfl) mC bI .nil (passes_call (takes_of rfl rfl rfl rfl) fun _ _ _ _ z => z) (pa_cons (pv 1) (pa_cons (pv 7) pa_nil)))) (pa_cons (pe_tup (pa_cons pe_str (pa_cons (pv 8) pa_nil))) pa_nil))))) pa_nil))))))))))), ?_⟩
    have l0 : (rs.map V.str).length = rs.length := List.length_map _
    have ok : ∀ r ∈ rs, nameOk r = true := fun r hr => (nok r hr).1
    have lts : ts.length = es.length := paired_len ht
    refine ⟨_, rfl, _, rfl, p, _, rfl, .inl (SqL.of hp), _, _, rfl, rfl, ?_⟩
    refine ⟨a, l, n, ((rs.length + 1 : Nat) : Int), by rw [l0]; rfl, hS, by omega, by omega, by omega, fun H1 d sb1 s1 d0 d1 => ?_⟩
    have g1 : Gs a l H H1 := Gs.of sb1 s1
    obtain ⟨o, rfl⟩ : ∃ o : Nat, d = (o : Int) := ⟨d.toNat, by omega⟩
    have lo : o ≤ rs.length := by omega
    have ltk : (rs.take o).length = o := by rw [List.length_take]; omega
    have cp : cutV (rs.map V.str) none (some (o : Int)) = (rs.take o).map V.str := by rw [cut_pre (by rw [l0]; exact lo), List.map_take]
    have cs : cutV (rs.map V.str) (some (o : Int)) none = (rs.drop o).map V.str := by rw [cut_suf (by rw [l0]; exact lo), List.map_drop]
    -- odd
    refine ⟨_, rfl, _, rfl, a, l, n + 1, rfl, s1, by omega, fun H2 v0 od0 nv0 lv0 g2 s2 => ?_⟩
    refine ⟨(by show 1 ≤ sizeLine; decide), fun q1 nq1 => ?_⟩
    have gH3 : Gr H2 (upd H2 q1 (.lst [v0])) := Gr.upd nq1
    have eq1 : upd H2 q1 (.lst [v0]) q1 = some (.lst [v0]) := upd_same
    generalize upd H2 q1 (.lst [v0]) = H3 at gH3 eq1 ⊢
    have g12 := g1.trans (g2.trans gH3.gs)
    have hp3 := g12.keep hS hp (ok_strs _)
    refine ⟨_, rfl, _, rfl, _, rfl, p, _, rfl, SqL.of hp3, fun q2 nq2 => ?_⟩
    rw [cp]
    have gH4 : Gr H3 (upd H3 q2 (.lst ((rs.take o).map V.str))) := Gr.upd nq2
    have eq2 : upd H3 q2 (.lst ((rs.take o).map V.str)) q2 = some (.lst ((rs.take o).map V.str)) := upd_same
    generalize upd H3 q2 (.lst ((rs.take o).map V.str)) = H4 at gH4 eq2 ⊢
    refine ⟨q1, q2, _, _, rfl, rfl, gH4.s _ _ eq1, eq2, (by rw [List.length_map, ltk]; exact Nat.le_trans (show 1 + o ≤ 100 by omega) (by decide)), fun q3 nq3 => ?_⟩
    have gH5 : Gr H4 (upd H4 q3 (.lst ([v0] ++ (rs.take o).map V.str))) := Gr.upd nq3
    have eq3 : upd H4 q3 (.lst ([v0] ++ (rs.take o).map V.str)) q3 = some (.lst ([v0] ++ (rs.take o).map V.str)) := upd_same
    generalize upd H4 q3 (.lst ([v0] ++ (rs.take o).map V.str)) = H5 at gH5 eq3 ⊢
    have s5 := s2.stay ((gH3.trans gH4).trans gH5).s
    have g15 := g1.trans (g2.trans ((gH3.trans gH4).trans gH5).gs)
    have a3 := (⟨s2.na ((gH3.trans gH4).n _ nq3), s2.nl ((gH3.trans gH4).n _ nq3)⟩ : q3 ≠ a ∧ q3 ≠ l)
    refine ⟨a, l, q3, n + 2, _, rfl, s5, eq3, a3.1, a3.2, (by intro z; cases z), by omega, (by rw [List.length_append, List.length_map, ltk]; exact Nat.lt_of_le_of_lt (show 1 + o ≤ 100 by omega) (by decide)), fun H6 odd modd g6 s6 => ?_⟩
    have oddOk : Odd a l H6 odd ∧ (∀ z, odd = .str z → z.length ≤ 1000) ∧ (nameV odd = false ∨ ∃ z, odd = .str z ∧ z ∈ rs.take o) := by
      rcases List.mem_append.mp modd with m | m
      · rw [List.mem_singleton.mp m]
        exact ⟨(od0.mono ((gH3.trans gH4).trans gH5).s).gs g6, lv0, .inl nv0⟩
      · obtain ⟨z, mz, rfl⟩ := List.mem_map.mp m
        refine ⟨.inl (.inr (.inr (.inr ⟨z, rfl⟩))), fun u e => ?_, .inr ⟨z, rfl, mz⟩⟩
        rw [← V.str.inj e]
        have h := ok z (List.mem_of_mem_take mz)
        unfold nameOk at h
        simp only [Bool.and_eq_true, decide_eq_true_eq] at h
        omega
    clear modd eq1 eq2 eq3
    have g16 := g15.trans g6
    -- bad
    refine ⟨_, rfl, _, rfl, (by show 1 ≤ sizeLine; decide), fun q4 nq4 => ?_⟩
    have gH7 : Gr H6 (upd H6 q4 (.lst [.int 5])) := Gr.upd nq4
    have eq4 : upd H6 q4 (.lst [.int 5]) q4 = some (.lst [.int 5]) := upd_same
    generalize upd H6 q4 (.lst [.int 5]) = H7 at gH7 eq4 ⊢
    refine ⟨(by show 3 ≤ sizeLine; decide), fun q5 nq5 => ?_⟩
    have gH8 : Gr H7 (upd H7 q5 (.lst [.ref q, .non, .ref q4])) := Gr.upd nq5
    have eq5 : upd H7 q5 (.lst [.ref q, .non, .ref q4]) q5 = some (.lst [.ref q, .non, .ref q4]) := upd_same
    generalize upd H7 q5 (.lst [.ref q, .non, .ref q4]) = H8 at gH8 eq5 ⊢
    have s8 := s6.stay (gH7.trans gH8).s
    refine ⟨a, l, q5, n + 3, _, rfl, s8, eq5, s6.na (gH7.n _ nq5), s6.nl (gH7.n _ nq5), (by intro z; cases z), by omega, (by show 3 < 1000000; decide), fun H9 bad _ g9 s9 => ?_⟩
    have g19 := g16.trans ((gH7.trans gH8).gs.trans g9)
    have od9 : Odd a l H9 odd := (oddOk.1.mono (gH7.trans gH8).s).gs g9
    have hp9 := g19.keep hS hp (ok_strs _)
    have tT9 := Tabs.gs tT hS g19
    clear eq4 eq5
    -- dues
    refine ⟨_, rfl, _, rfl, _, rfl, p, _, rfl, SqL.of hp9, fun b1 nb1 => ?_⟩
    rw [cp]
    have gJ1 : Gr H9 (upd H9 b1 (.lst ((rs.take o).map V.str))) := Gr.upd nb1
    have eb1 : upd H9 b1 (.lst ((rs.take o).map V.str)) b1 = some (.lst ((rs.take o).map V.str)) := upd_same
    generalize upd H9 b1 (.lst ((rs.take o).map V.str)) = J1 at gJ1 eb1 ⊢
    refine ⟨_, rfl, (by show 1 ≤ sizeLine; decide), fun b2 nb2 => ?_⟩
    have gJ2 : Gr J1 (upd J1 b2 (.lst [odd])) := Gr.upd nb2
    have eb2 : upd J1 b2 (.lst [odd]) b2 = some (.lst [odd]) := upd_same
    generalize upd J1 b2 (.lst [odd]) = J2 at gJ2 eb2 ⊢
    refine ⟨b1, b2, _, _, rfl, rfl, gJ2.s _ _ eb1, eb2, (by rw [List.length_map, ltk]; exact Nat.le_trans (show o + 1 ≤ 100 by omega) (by decide)), fun b3 nb3 => ?_⟩
    have gJ3 : Gr J2 (upd J2 b3 (.lst ((rs.take o).map V.str ++ [odd]))) := Gr.upd nb3
    have eb3 : upd J2 b3 (.lst ((rs.take o).map V.str ++ [odd])) b3 = some (.lst ((rs.take o).map V.str ++ [odd])) := upd_same
    generalize upd J2 b3 (.lst ((rs.take o).map V.str ++ [odd])) = J3 at gJ3 eb3 ⊢
    refine ⟨_, rfl, _, rfl, _, rfl, p, _, rfl, SqL.of (((gJ1.trans gJ2).trans gJ3).s _ _ hp9), fun b4 nb4 => ?_⟩
    rw [cs]
    have gJ4 : Gr J3 (upd J3 b4 (.lst ((rs.drop o).map V.str))) := Gr.upd nb4
    have eb4 : upd J3 b4 (.lst ((rs.drop o).map V.str)) b4 = some (.lst ((rs.drop o).map V.str)) := upd_same
    generalize upd J3 b4 (.lst ((rs.drop o).map V.str)) = J4 at gJ4 eb4 ⊢
    have ld : (rs.drop o).length = rs.length - o := List.length_drop
    refine ⟨b3, b4, _, _, rfl, rfl, gJ4.s _ _ eb3, eb4, (by rw [List.length_append, List.length_map, List.length_map, ltk, ld]; exact Nat.le_trans (show o + 1 + (rs.length - o) ≤ 100 by omega) (by decide)), fun b5 nb5 => ?_⟩
    have gJ5 : Gr J4 (upd J4 b5 (.lst ((rs.take o).map V.str ++ [odd] ++ (rs.drop o).map V.str))) := Gr.upd nb5
    have eb5 : upd J4 b5 (.lst ((rs.take o).map V.str ++ [odd] ++ (rs.drop o).map V.str)) b5 = some (.lst ((rs.take o).map V.str ++ [odd] ++ (rs.drop o).map V.str)) := upd_same
    generalize upd J4 b5 (.lst ((rs.take o).map V.str ++ [odd] ++ (rs.drop o).map V.str)) = J5 at gJ5 eb5 ⊢
    refine ⟨(by show 1 ≤ sizeLine; decide), fun b6 nb6 => ?_⟩
    have gJ6 : Gr J5 (upd J5 b6 (.lst [.non])) := Gr.upd nb6
    have eb6 : upd J5 b6 (.lst [.non]) b6 = some (.lst [.non]) := upd_same
    generalize upd J5 b6 (.lst [.non]) = J6 at gJ6 eb6 ⊢
    refine ⟨b5, b6, _, _, rfl, rfl, gJ6.s _ _ eb5, eb6, (by rw [List.length_append, List.length_append, List.length_map, List.length_map, ltk, ld]; exact Nat.le_trans (show o + 1 + (rs.length - o) + 1 ≤ 100 by omega) (by decide)), fun W nW => ?_⟩
    have gJ7 : Gr J6 (upd J6 W (.lst ((rs.take o).map V.str ++ [odd] ++ (rs.drop o).map V.str ++ [.non]))) := Gr.upd nW
    have eW : upd J6 W (.lst ((rs.take o).map V.str ++ [odd] ++ (rs.drop o).map V.str ++ [.non])) W = some (.lst ((rs.take o).map V.str ++ [odd] ++ (rs.drop o).map V.str ++ [.non])) := upd_same
    generalize upd J6 W (.lst ((rs.take o).map V.str ++ [odd] ++ (rs.drop o).map V.str ++ [.non])) = J7 at gJ7 eW ⊢
    refine ⟨_, rfl, (by show 2 ≤ sizeLine; decide), fun t1 nt1 => ?_⟩
    have gJ8 : Gr J7 (upd J7 t1 (.tup [.ref W, .int (o : Int)])) := Gr.upd nt1
    have et1 : upd J7 t1 (.tup [.ref W, .int (o : Int)]) t1 = some (.tup [.ref W, .int (o : Int)]) := upd_same
    generalize upd J7 t1 (.tup [.ref W, .int (o : Int)]) = J8 at gJ8 et1 ⊢
    refine ⟨(by show 2 ≤ sizeLine; decide), fun t2 nt2 => ?_⟩
    have gJ9 : Gr J8 (upd J8 t2 (.tup [.non, .int 0])) := Gr.upd nt2
    have et2 : upd J8 t2 (.tup [.non, .int 0]) t2 = some (.tup [.non, .int 0]) := upd_same
    generalize upd J8 t2 (.tup [.non, .int 0]) = J9 at gJ9 et2 ⊢
    refine ⟨(by show 0 ≤ sizeLine; decide), fun z3 nz3 => ?_⟩
    have gJ10 : Gr J9 (upd J9 z3 (.lst [])) := Gr.upd nz3
    have ez3 : upd J9 z3 (.lst []) z3 = some (.lst []) := upd_same
    generalize upd J9 z3 (.lst []) = J10 at gJ10 ez3 ⊢
    refine ⟨(by show 2 ≤ sizeLine; decide), fun t3 nt3 => ?_⟩
    have gJ11 : Gr J10 (upd J10 t3 (.tup [.ref z3, .int 0])) := Gr.upd nt3
    have et3 : upd J10 t3 (.tup [.ref z3, .int 0]) t3 = some (.tup [.ref z3, .int 0]) := upd_same
    generalize upd J10 t3 (.tup [.ref z3, .int 0]) = J11 at gJ11 et3 ⊢
    refine ⟨(by show 0 ≤ sizeLine; decide), fun z4 nz4 => ?_⟩
    have gJ12 : Gr J11 (upd J11 z4 (.tup [])) := Gr.upd nz4
    have ez4 : upd J11 z4 (.tup []) z4 = some (.tup []) := upd_same
    generalize upd J11 z4 (.tup []) = J12 at gJ12 ez4 ⊢
    refine ⟨(by show 2 ≤ sizeLine; decide), fun t4 nt4 => ?_⟩
    have gJ13 : Gr J12 (upd J12 t4 (.tup [.ref z4, .int 0])) := Gr.upd nt4
    have et4 : upd J12 t4 (.tup [.ref z4, .int 0]) t4 = some (.tup [.ref z4, .int 0]) := upd_same
    generalize upd J12 t4 (.tup [.ref z4, .int 0]) = J13 at gJ13 et4 ⊢
    refine ⟨(by show 2 ≤ sizeLine; decide), fun t5 nt5 => ?_⟩
    have gJ14 : Gr J13 (upd J13 t5 (.tup [.str "ab", .int 0])) := Gr.upd nt5
    have et5 : upd J13 t5 (.tup [.str "ab", .int 0]) t5 = some (.tup [.str "ab", .int 0]) := upd_same
    generalize upd J13 t5 (.tup [.str "ab", .int 0]) = J14 at gJ14 et5 ⊢
    refine fun z6 nz6 => ?_
    have gJ15 : Gr J14 (upd J14 z6 (.dK [])) := Gr.upd nz6
    have ez6 : upd J14 z6 (.dK []) z6 = some (.dK []) := upd_same
    generalize upd J14 z6 (.dK []) = J15 at gJ15 ez6 ⊢
    refine ⟨(by show 2 ≤ sizeLine; decide), fun t6 nt6 => ?_⟩
    have gJ16 : Gr J15 (upd J15 t6 (.tup [.ref z6, .int 0])) := Gr.upd nt6
    have et6 : upd J15 t6 (.tup [.ref z6, .int 0]) t6 = some (.tup [.ref z6, .int 0]) := upd_same
    generalize upd J15 t6 (.tup [.ref z6, .int 0]) = J16 at gJ16 et6 ⊢
    refine ⟨(by show 2 ≤ sizeLine; decide), fun t7 nt7 => ?_⟩
    have gJ17 : Gr J16 (upd J16 t7 (.tup [.int 5, .int 0])) := Gr.upd nt7
    have et7 : upd J16 t7 (.tup [.int 5, .int 0]) t7 = some (.tup [.int 5, .int 0]) := upd_same
    generalize upd J16 t7 (.tup [.int 5, .int 0]) = J17 at gJ17 et7 ⊢
    refine ⟨(by show 7 ≤ sizeLine; decide), fun DU nDU => ?_⟩
    have gA0 : Gr J17 (upd J17 DU (.lst [.ref t1, .ref t2, .ref t3, .ref t4, .ref t5, .ref t6, .ref t7])) := Gr.upd nDU
    have eDU : upd J17 DU (.lst [.ref t1, .ref t2, .ref t3, .ref t4, .ref t5, .ref t6, .ref t7]) DU = some (.lst [.ref t1, .ref t2, .ref t3, .ref t4, .ref t5, .ref t6, .ref t7]) := upd_same
    generalize upd J17 DU (.lst [.ref t1, .ref t2, .ref t3, .ref t4, .ref t5, .ref t6, .ref t7]) = A0 at gA0 eDU ⊢
    have hJ17 : Gr J17 A0 := gA0
    have hJ16 : Gr J16 A0 := gJ17.trans hJ17
    have hJ15 : Gr J15 A0 := gJ16.trans hJ16
    have hJ14 : Gr J14 A0 := gJ15.trans hJ15
    have hJ13 : Gr J13 A0 := gJ14.trans hJ14
    have hJ12 : Gr J12 A0 := gJ13.trans hJ13
    have hJ11 : Gr J11 A0 := gJ12.trans hJ12
    have hJ10 : Gr J10 A0 := gJ11.trans hJ11
    have hJ9 : Gr J9 A0 := gJ10.trans hJ10
    have hJ8 : Gr J8 A0 := gJ9.trans hJ9
    have hJ7 : Gr J7 A0 := gJ8.trans hJ8
    have hJ6 : Gr J6 A0 := gJ7.trans hJ7
    have hJ5 : Gr J5 A0 := gJ6.trans hJ6
    have hJ4 : Gr J4 A0 := gJ5.trans hJ5
    have hJ3 : Gr J3 A0 := gJ4.trans hJ4
    have hJ2 : Gr J2 A0 := gJ3.trans hJ3
    have hJ1 : Gr J1 A0 := gJ2.trans hJ2
    have hH9 : Gr H9 A0 := gJ1.trans hJ1
    have gA : Gs a l H A0 := g19.trans hH9.gs
    have sA : Spr A0 a l (n + 4) := s9.stay hH9.s
    have tA := tT9.ext hH9.s
    have odA : Odd a l A0 odd := od9.mono hH9.s
    have hpA := hH9.s _ _ hp9
    have hqA := gA.keep hS hq (ok_refs _)
    have htA := TupsAt.gs ht hS gA
    have eWA := hJ7.s _ _ eW
    have rowL : ∀ {z : Addr} {ws : List V}, A0 z = some (.lst ws) → RowA K A0 z ws := fun h => .inl ⟨SqL.of h, fun H' s => .base (.lst (s _ _ h))⟩
    have rowT : ∀ {z : Addr} {ws : List V}, A0 z = some (.tup ws) → RowA K A0 z ws := fun h => .inr ⟨SqT.of h, fun H' s => .base (.tup (s _ _ h))⟩
    have no : ∀ {v : V} {t : Value}, (∀ H', Same A0 H' → TyX K H' v t) → PySem.W.kitOne K t (.type "list") = some false → PySem.W.kitOne K t (.type "tuple") = some false → NoRow K A0 v := fun ty k1 k2 =>
      ⟨_, ty, kitAny_cons (b := false) k1 (fun _ => kitAny_cons (b := false) k2 (fun _ => rfl) (fun z => by cases z)) (fun z => by cases z)⟩
    have tlW : TellsR K A0 (.ref W) (some o) := by
      refine .inr ⟨W, _, rfl, rowL eWA, fun v hv => ?_, ?_, .inr ⟨rs.take o, odd :: ((rs.drop o).map V.str ++ [.non]), by simp, by simp, gd.nodup.sublist (List.take_sublist _ _), fun r hr => ok r (List.mem_of_mem_take hr), .inr ⟨odd, _, rfl, by rw [ltk], oddOk.2.2⟩⟩⟩
      · have str : ∀ z ∈ rs, KnwN K A0 (.str z) := fun z hz => by
          have h := ok z hz
          unfold nameOk at h
          simp only [Bool.and_eq_true, decide_eq_true_eq] at h
          exact .inl ⟨z, rfl, by omega⟩
        rcases List.mem_append.mp hv with hv | hv
        · rcases List.mem_append.mp hv with hv | hv
          · rcases List.mem_append.mp hv with hv | hv
            · obtain ⟨z, mz, rfl⟩ := List.mem_map.mp hv
              exact str z (List.mem_of_mem_take mz)
            · rw [List.mem_singleton.mp hv]
              exact odA.knwN oddOk.2.1
          · obtain ⟨z, mz, rfl⟩ := List.mem_map.mp hv
            exact str z (List.mem_of_mem_drop mz)
        · rw [List.mem_singleton.mp hv]
          exact .inr ⟨fun z e => (by cases e), _, fun H' s => .base .non, kit_ty (by decide +kernel)⟩
      · rw [List.length_append, List.length_append, List.length_append, List.length_map, List.length_map, ltk, ld]
        show o + 1 + (rs.length - o) + 1 < 1000
        omega
    have items : ∀ v ∈ [V.ref t1, .ref t2, .ref t3, .ref t4, .ref t5, .ref t6, .ref t7], ∃ tp x o2, v = .ref tp ∧ A0 tp = some (.tup [x, .int ((o2 : Nat) : Int)]) ∧ TellsR K A0 x (some o2) := fun v hv => by
      simp only [List.mem_cons, List.not_mem_nil, or_false] at hv
      rcases hv with rfl | rfl | rfl | rfl | rfl | rfl | rfl
      · exact ⟨t1, _, o, rfl, hJ8.s _ _ et1, tlW⟩
      · exact ⟨t2, _, 0, rfl, hJ9.s _ _ et2, .inl ⟨rfl, no (fun _ _ => .base .non) (kit_ty (by decide +kernel)) (kit_ty (by decide +kernel))⟩⟩
      · exact ⟨t3, _, 0, rfl, hJ11.s _ _ et3, .inr ⟨z3, [], rfl, rowL (hJ10.s _ _ ez3), (fun v hv => by cases hv), by decide, .inl ⟨rfl, rfl⟩⟩⟩
      · exact ⟨t4, _, 0, rfl, hJ13.s _ _ et4, .inr ⟨z4, [], rfl, rowT (hJ12.s _ _ ez4), (fun v hv => by cases hv), by decide, .inl ⟨rfl, rfl⟩⟩⟩
      · exact ⟨t5, _, 0, rfl, hJ14.s _ _ et5, .inl ⟨rfl, no (fun _ _ => .base (.str _)) (kit_ty (by decide +kernel)) (kit_ty (by decide +kernel))⟩⟩
      · exact ⟨t6, _, 0, rfl, hJ16.s _ _ et6, .inl ⟨rfl, no (fun _ s => .base (.dK (s _ _ (hJ15.s _ _ ez6)))) (kit_ty (by decide +kernel)) (kit_ty (by decide +kernel))⟩⟩
      · exact ⟨t7, _, 0, rfl, hJ17.s _ _ et7, .inl ⟨rfl, no (fun _ _ => .base (.int _)) (kit_ty (by decide +kernel)) (kit_ty (by decide +kernel))⟩⟩
    clear eb1 eb2 eb3 eb4 eb5 eb6 eW et1 et2 et3 et4 et5 et6 et7 ez3 ez4 ez6 rowL rowT no tlW eWA
    refine ⟨_, rfl, DU, rfl, ⟨_, SqL.of eDU⟩, ?_⟩
    refine for_it (walk_list (xs := [.ref t1, .ref t2, .ref t3, .ref t4, .ref t5, .ref t6, .ref t7])) (fun _ σ' H' => ∃ (w7 w8 : Option V), σ' = [some (.ref a), some (.ref p), some (.ref q), some (.int (o : Int)), some odd, some bad, some (.ref DU), w7, w8] ∧ ExtN A0 H' ∧ Tabs T H') ⟨_, _, rfl, ExtN.refl _, tA⟩ ?_ ?_ ?_
    · rintro j σ' H' _ ⟨w7, w8, rfl, e, _⟩
      exact seqL_extN (SqL.of eDU) e
    · rintro j v σ' H' H'' _ ⟨w7, w8, rfl, e, tb⟩ ⟨rfl, hv⟩
      obtain ⟨tp, x, o2, rfl, etp, tl⟩ := items v (List.mem_of_getElem? hv)
      have etp' := e _ _ etp fun _ z => by cases z
      refine ⟨tp, _, rfl, SqT.of etp', rfl, _, _, rfl, _, _, rfl, rfl, ?_⟩
      refine met_rooms (i := 7) (j := 5) rfl rfl tb (tl.extN e) fun C1 p1 e1 tC1 ep1 => ?_
      refine ⟨_, rfl, (by show 2 ≤ sizeLine; decide), fun T0 nT0 => ?_⟩
      have d1 : Gr C1 (upd C1 T0 (.tup [.str "rooms", .int (o2 : Int)])) := Gr.upd nT0
      refine ⟨.ref p1, .ref T0, rfl, (Tg.tup (n := 0) (d1.s _ _ ep1) upd_same (by show 2 < 100000; decide) rfl (Tg.two (.sc (.str _)) (.sc (.int _)))).mono (by decide), fun D2 s12 => ?_⟩
      refine ⟨_, rfl, iteF2 rfl ?_⟩
      have s1 := d1.s.trans s12
      exact ⟨_, _, rfl, (e.trans e1).trans (ExtN.of s1), tC1.ext s1⟩
    rintro σ' B0 ⟨w7, w8, rfl, eB, tB⟩
    have sB := sA.extN eB
    have gB : GsN a l H B0 := (GsN.gs gA).trans (GsN.ext eB)
    have hpB := eB _ _ hpA fun _ z => by cases z
    have hqB := eB _ _ hqA fun _ z => by cases z
    have htB := TupsAt.extN htA eB
    clear items eDU
    have l2 : (ts.map V.ref).length = es.length := by rw [List.length_map, lts]
    refine ⟨_, rfl, _, rfl, q, _, rfl, .inl (SqL.of hqB), _, _, rfl, rfl, ?_⟩
    refine ⟨a, l, n + 4, ((es.length + 1 : Nat) : Int), by rw [l2]; rfl, sB, by omega, by omega, by omega, fun H11 d sb11 s11 d0' d1' => ?_⟩
    have g11 : Gs a l B0 H11 := Gs.of sb11 s11
    obtain ⟨m, rfl⟩ : ∃ m : Nat, d = (m : Int) := ⟨d.toNat, by omega⟩
    have lm : m ≤ es.length := by omega
    have ltm : (ts.take m).length = m := by rw [List.length_take]; omega
    have lem : (es.take m).length = m := by rw [List.length_take]; omega
    have ldm : (ts.drop m).length = es.length - m := by rw [List.length_drop]; omega
    have cp2 : cutV (ts.map V.ref) none (some (m : Int)) = (ts.take m).map V.ref := by rw [cut_pre (by rw [l2]; exact lm), List.map_take]
    have cs2 : cutV (ts.map V.ref) (some (m : Int)) none = (ts.drop m).map V.ref := by rw [cut_suf (by rw [l2]; exact lm), List.map_drop]
    have hp11 := g11.keep sB hpB (ok_strs _)
    have hq11 := g11.keep sB hqB (ok_refs _)
    have ht11 := TupsAt.gs htB sB g11
    have tT11 := Tabs.gs tB sB g11
    refine ⟨_, rfl, _, rfl, _, rfl, _, rfl, _, rfl, q, _, rfl, SqL.of hq11, fun b7 nb7 => ?_⟩
    rw [cp2]
    have gM1 : Gr H11 (upd H11 b7 (.lst ((ts.take m).map V.ref))) := Gr.upd nb7
    have eb7 : upd H11 b7 (.lst ((ts.take m).map V.ref)) b7 = some (.lst ((ts.take m).map V.ref)) := upd_same
    generalize upd H11 b7 (.lst ((ts.take m).map V.ref)) = M1 at gM1 eb7 ⊢
    have s12 := s11.stay gM1.s
    refine ⟨a, l, p, b7, n + 5, rs, ts.take m, es.take m, rfl, s12, by omega, gM1.s _ _ hp11, eb7, tups_take (tups_up ht11 gM1.s) m, gd.ne, gd.nodup, lrs, by omega, nok, fun e he => gd.ends e (List.mem_of_mem_take he), fun z x hx y hy => ?_, fun H12 odd2 od2 g12 s13 => ?_⟩
    · have em : m = es.length := by omega
      rw [em, List.take_length]
      exact gd.join x hx y hy
    have hp12 := g12.keep s12 (gM1.s _ _ hp11) (ok_strs _)
    have hq12 := g12.keep s12 (gM1.s _ _ hq11) (ok_refs _)
    have ht12 := TupsAt.gs (tups_up ht11 gM1.s) s12 g12
    have tT12 := Tabs.gs (tT11.ext gM1.s) s12 g12
    have gx12 : GsN a l H H12 := gB.trans (GsN.gs (g11.trans (gM1.gs.trans g12)))
    -- dues
    refine ⟨_, rfl, _, rfl, _, rfl, q, _, rfl, SqL.of hq12, fun c1 nc1 => ?_⟩
    rw [cp2]
    have gN1 : Gr H12 (upd H12 c1 (.lst ((ts.take m).map V.ref))) := Gr.upd nc1
    have ec1 : upd H12 c1 (.lst ((ts.take m).map V.ref)) c1 = some (.lst ((ts.take m).map V.ref)) := upd_same
    generalize upd H12 c1 (.lst ((ts.take m).map V.ref)) = N1 at gN1 ec1 ⊢
    refine ⟨_, rfl, (by show 1 ≤ sizeLine; decide), fun c2 nc2 => ?_⟩
    have gN2 : Gr N1 (upd N1 c2 (.lst [odd2])) := Gr.upd nc2
    have ec2 : upd N1 c2 (.lst [odd2]) c2 = some (.lst [odd2]) := upd_same
    generalize upd N1 c2 (.lst [odd2]) = N2 at gN2 ec2 ⊢
    refine ⟨c1, c2, _, _, rfl, rfl, gN2.s _ _ ec1, ec2, (by rw [List.length_map, ltm]; exact Nat.le_trans (show m + 1 ≤ 100 by omega) (by decide)), fun c3 nc3 => ?_⟩
    have gN3 : Gr N2 (upd N2 c3 (.lst ((ts.take m).map V.ref ++ [odd2]))) := Gr.upd nc3
    have ec3 : upd N2 c3 (.lst ((ts.take m).map V.ref ++ [odd2])) c3 = some (.lst ((ts.take m).map V.ref ++ [odd2])) := upd_same
    generalize upd N2 c3 (.lst ((ts.take m).map V.ref ++ [odd2])) = N3 at gN3 ec3 ⊢
    refine ⟨_, rfl, _, rfl, _, rfl, q, _, rfl, SqL.of (((gN1.trans gN2).trans gN3).s _ _ hq12), fun c4 nc4 => ?_⟩
    rw [cs2]
    have gN4 : Gr N3 (upd N3 c4 (.lst ((ts.drop m).map V.ref))) := Gr.upd nc4
    have ec4 : upd N3 c4 (.lst ((ts.drop m).map V.ref)) c4 = some (.lst ((ts.drop m).map V.ref)) := upd_same
    generalize upd N3 c4 (.lst ((ts.drop m).map V.ref)) = N4 at gN4 ec4 ⊢
    refine ⟨c3, c4, _, _, rfl, rfl, gN4.s _ _ ec3, ec4, (by rw [List.length_append, List.length_map, List.length_map, ltm, ldm]; exact Nat.le_trans (show m + 1 + (es.length - m) ≤ 100 by omega) (by decide)), fun c5 nc5 => ?_⟩
    have gN5 : Gr N4 (upd N4 c5 (.lst ((ts.take m).map V.ref ++ [odd2] ++ (ts.drop m).map V.ref))) := Gr.upd nc5
    have ec5 : upd N4 c5 (.lst ((ts.take m).map V.ref ++ [odd2] ++ (ts.drop m).map V.ref)) c5 = some (.lst ((ts.take m).map V.ref ++ [odd2] ++ (ts.drop m).map V.ref)) := upd_same
    generalize upd N4 c5 (.lst ((ts.take m).map V.ref ++ [odd2] ++ (ts.drop m).map V.ref)) = N5 at gN5 ec5 ⊢
    refine ⟨(by show 1 ≤ sizeLine; decide), fun c6 nc6 => ?_⟩
    have gN6 : Gr N5 (upd N5 c6 (.lst [.non])) := Gr.upd nc6
    have ec6 : upd N5 c6 (.lst [.non]) c6 = some (.lst [.non]) := upd_same
    generalize upd N5 c6 (.lst [.non]) = N6 at gN6 ec6 ⊢
    refine ⟨c5, c6, _, _, rfl, rfl, gN6.s _ _ ec5, ec6, (by rw [List.length_append, List.length_append, List.length_map, List.length_map, ltm, ldm]; exact Nat.le_trans (show m + 1 + (es.length - m) + 1 ≤ 100 by omega) (by decide)), fun W nW => ?_⟩
    have gN7 : Gr N6 (upd N6 W (.lst ((ts.take m).map V.ref ++ [odd2] ++ (ts.drop m).map V.ref ++ [.non]))) := Gr.upd nW
    have eW : upd N6 W (.lst ((ts.take m).map V.ref ++ [odd2] ++ (ts.drop m).map V.ref ++ [.non])) W = some (.lst ((ts.take m).map V.ref ++ [odd2] ++ (ts.drop m).map V.ref ++ [.non])) := upd_same
    generalize upd N6 W (.lst ((ts.take m).map V.ref ++ [odd2] ++ (ts.drop m).map V.ref ++ [.non])) = N7 at gN7 eW ⊢
    refine ⟨_, rfl, (by show 2 ≤ sizeLine; decide), fun t1 nt1 => ?_⟩
    have gN8 : Gr N7 (upd N7 t1 (.tup [.ref W, .int (m : Int)])) := Gr.upd nt1
    have et1 : upd N7 t1 (.tup [.ref W, .int (m : Int)]) t1 = some (.tup [.ref W, .int (m : Int)]) := upd_same
    generalize upd N7 t1 (.tup [.ref W, .int (m : Int)]) = N8 at gN8 et1 ⊢
    refine ⟨(by show 2 ≤ sizeLine; decide), fun t2 nt2 => ?_⟩
    have gN9 : Gr N8 (upd N8 t2 (.tup [.non, .int 0])) := Gr.upd nt2
    have et2 : upd N8 t2 (.tup [.non, .int 0]) t2 = some (.tup [.non, .int 0]) := upd_same
    generalize upd N8 t2 (.tup [.non, .int 0]) = N9 at gN9 et2 ⊢
    refine ⟨(by show 2 ≤ sizeLine; decide), fun t3 nt3 => ?_⟩
    have gN10 : Gr N9 (upd N9 t3 (.tup [.str "ab", .int 0])) := Gr.upd nt3
    have et3 : upd N9 t3 (.tup [.str "ab", .int 0]) t3 = some (.tup [.str "ab", .int 0]) := upd_same
    generalize upd N9 t3 (.tup [.str "ab", .int 0]) = N10 at gN10 et3 ⊢
    refine fun z4 nz4 => ?_
    have gN11 : Gr N10 (upd N10 z4 (.dK [])) := Gr.upd nz4
    have ez4 : upd N10 z4 (.dK []) z4 = some (.dK []) := upd_same
    generalize upd N10 z4 (.dK []) = N11 at gN11 ez4 ⊢
    refine ⟨(by show 2 ≤ sizeLine; decide), fun t4 nt4 => ?_⟩
    have gN12 : Gr N11 (upd N11 t4 (.tup [.ref z4, .int 0])) := Gr.upd nt4
    have et4 : upd N11 t4 (.tup [.ref z4, .int 0]) t4 = some (.tup [.ref z4, .int 0]) := upd_same
    generalize upd N11 t4 (.tup [.ref z4, .int 0]) = N12 at gN12 et4 ⊢
    refine ⟨(by show 2 ≤ sizeLine; decide), fun t5 nt5 => ?_⟩
    have gN13 : Gr N12 (upd N12 t5 (.tup [.bl true, .int 0])) := Gr.upd nt5
    have et5 : upd N12 t5 (.tup [.bl true, .int 0]) t5 = some (.tup [.bl true, .int 0]) := upd_same
    generalize upd N12 t5 (.tup [.bl true, .int 0]) = N13 at gN13 et5 ⊢
    refine ⟨(by show 5 ≤ sizeLine; decide), fun DV nDV => ?_⟩
    have gA1 : Gr N13 (upd N13 DV (.lst [.ref t1, .ref t2, .ref t3, .ref t4, .ref t5])) := Gr.upd nDV
    have eDV : upd N13 DV (.lst [.ref t1, .ref t2, .ref t3, .ref t4, .ref t5]) DV = some (.lst [.ref t1, .ref t2, .ref t3, .ref t4, .ref t5]) := upd_same
    generalize upd N13 DV (.lst [.ref t1, .ref t2, .ref t3, .ref t4, .ref t5]) = A1 at gA1 eDV ⊢
    have hN13 : Gr N13 A1 := gA1
    have hN12 : Gr N12 A1 := gN13.trans hN13
    have hN11 : Gr N11 A1 := gN12.trans hN12
    have hN10 : Gr N10 A1 := gN11.trans hN11
    have hN9 : Gr N9 A1 := gN10.trans hN10
    have hN8 : Gr N8 A1 := gN9.trans hN9
    have hN7 : Gr N7 A1 := gN8.trans hN8
    have hN6 : Gr N6 A1 := gN7.trans hN7
    have hN5 : Gr N5 A1 := gN6.trans hN6
    have hN4 : Gr N4 A1 := gN5.trans hN5
    have hN3 : Gr N3 A1 := gN4.trans hN4
    have hN2 : Gr N2 A1 := gN3.trans hN3
    have hN1 : Gr N1 A1 := gN2.trans hN2
    have hH12 : Gr H12 A1 := gN1.trans hN1
    have gA1 : GsN a l H A1 := gx12.trans (GsN.gs hH12.gs)
    have sA1 : Spr A1 a l (n + 5 + 2) := s13.stay hH12.s
    have tA1 := tT12.ext hH12.s
    have hpA1 := hH12.s _ _ hp12
    have htA1 : TupsAt A1 ts es := tups_up ht12 hH12.s
    have odA1 : OddD a l rs (es.take m) A1 odd2 := od2.gs hH12.gs
    have eWA := hN7.s _ _ eW
    have rowL : ∀ {z : Addr} {ws : List V}, A1 z = some (.lst ws) → RowA K A1 z ws := fun h => .inl ⟨SqL.of h, fun H' s => .base (.lst (s _ _ h))⟩
    have no : ∀ {v : V} {t : Value}, (∀ H', Same A1 H' → TyX K H' v t) → PySem.W.kitOne K t (.type "list") = some false → PySem.W.kitOne K t (.type "tuple") = some false → NoRow K A1 v := fun ty k1 k2 =>
      ⟨_, ty, kitAny_cons (b := false) k1 (fun _ => kitAny_cons (b := false) k2 (fun _ => rfl) (fun z => by cases z)) (fun z => by cases z)⟩
    have prs : Paired (fun u e => DoorV K A1 rs u (some e)) ((ts.take m).map V.ref) (es.take m) := doors_refs (tups_take htA1 m) fun e he => gd.ends e (List.mem_of_mem_take he)
    have tlW : TellsD K A1 rs (.ref W) (some m) := by
      refine .inr ⟨W, _, (ts.take m).map V.ref, es.take m, odd2 :: ((ts.drop m).map V.ref ++ [.non]), rfl, rowL eWA, by simp, prs, fun l1 e l2 h => ?_, .inr ⟨odd2, _, rfl, by rw [List.length_map, ltm], odA1.door⟩⟩
      exact gd.doors l1 e (l2 ++ es.drop m) (by
        have h2 := (List.take_append_drop m es).symm
        rw [h] at h2
        exact h2.trans (by simp))
    have items : ∀ v ∈ [V.ref t1, .ref t2, .ref t3, .ref t4, .ref t5], ∃ tp x o2, v = .ref tp ∧ A1 tp = some (.tup [x, .int ((o2 : Nat) : Int)]) ∧ TellsD K A1 rs x (some o2) := fun v hv => by
      simp only [List.mem_cons, List.not_mem_nil, or_false] at hv
      rcases hv with rfl | rfl | rfl | rfl | rfl
      · exact ⟨t1, _, m, rfl, hN8.s _ _ et1, tlW⟩
      · exact ⟨t2, _, 0, rfl, hN9.s _ _ et2, .inl ⟨rfl, no (fun _ _ => .base .non) (kit_ty (by decide +kernel)) (kit_ty (by decide +kernel))⟩⟩
      · exact ⟨t3, _, 0, rfl, hN10.s _ _ et3, .inl ⟨rfl, no (fun _ _ => .base (.str _)) (kit_ty (by decide +kernel)) (kit_ty (by decide +kernel))⟩⟩
      · exact ⟨t4, _, 0, rfl, hN12.s _ _ et4, .inl ⟨rfl, no (fun _ s => .base (.dK (s _ _ (hN11.s _ _ ez4)))) (kit_ty (by decide +kernel)) (kit_ty (by decide +kernel))⟩⟩
      · exact ⟨t5, _, 0, rfl, hN13.s _ _ et5, .inl ⟨rfl, no (fun _ _ => .base (.bl _)) (kit_ty (by decide +kernel)) (kit_ty (by decide +kernel))⟩⟩
    clear ec1 ec2 ec3 ec4 ec5 ec6 eW et1 et2 et3 et4 et5 ez4 no tlW eWA
    have rpA1 : RowA K A1 p (rs.map V.str) := rowL hpA1
    refine ⟨_, rfl, DV, rfl, ⟨_, SqL.of eDV⟩, fun B hB => ?_⟩
    refine lc_it (walk_list (xs := [.ref t1, .ref t2, .ref t3, .ref t4, .ref t5])) (fun j H' => H' B = some (.lst ((List.replicate j true).map V.bl)) ∧ ExtN A1 H' ∧ Tabs T H') ⟨upd_same, extN_put (ExtN.refl _) hB (ExtN.refl _), tA1.ext (same_upd hB)⟩ (fun j H' _ q => seqL_extN (SqL.of eDV) q.2.1) ?_ ?_
    · rintro j v H' H'' hj ⟨q1, e, tb⟩ ⟨rfl, hv⟩
      obtain ⟨tp, x, o2, rfl, etp, tl⟩ := items v (List.mem_of_getElem? hv)
      have etp' := e _ _ etp fun _ z => by cases z
      refine ⟨tp, _, rfl, SqT.of etp', rfl, _, _, rfl, _, _, rfl, rfl, rfl, ?_⟩
      refine met_doors (i := 1) (j := 7) rfl rfl tb (rpA1.extN e) gd.nodup gd.ne (by omega) ok (tl.extN e) fun C1 p1 e1 tC1 ep1 => ?_
      refine ⟨_, rfl, (by show 2 ≤ sizeLine; decide), fun T0 nT0 => ?_⟩
      have d1 : Gr C1 (upd C1 T0 (.tup [.str "doors", .int (o2 : Int)])) := Gr.upd nT0
      refine ⟨.ref p1, .ref T0, rfl, (Tg.tup (n := 0) (d1.s _ _ ep1) upd_same (by show 2 < 100000; decide) rfl (Tg.two (.sc (.str _)) (.sc (.int _)))).mono (by decide), fun D2 s12 => ?_⟩
      have s1 := d1.s.trans s12
      have e2 : ExtN H'' D2 := e1.trans (ExtN.of s1)
      have qB := e2 _ _ q1 fun _ z => by cases z
      refine ⟨_, qB, ?_, ?_, extN_put (ExtN.refl _) hB (e.trans e2), tabs_put (tC1.ext s1) qB⟩
      · rw [List.length_map, List.length_replicate]
        exact Nat.lt_of_lt_of_le hj (by show 5 ≤ sizeLine; decide)
      · rw [upd_same, List.replicate_succ', List.map_append]
        rfl
    · rintro H' ⟨q1, e, tb⟩
      refine ⟨B, List.replicate 5 true, rfl, .inl (.inl q1), ?_⟩
      exact k H' (n + 5 + 2) (by omega) (gA1.trans (GsN.ext e)) (sA1.extN e) tb
end
end Lamp
set_option maxHeartbeats 4000000
namespace Lamp
open PySem PySem.Spec PyProof.Rows L2
/-! ### min of texts in any order: the least -/
def rMinU (K : PySem.W.Frag) : List V → Hp → VK → Prop := fun vs H Q => ∃ (a : Addr) (xs : List Str), vs = [.ref a] ∧ SqL K H a (xs.map V.str) ∧ xs ≠ [] ∧ ∀ m ∈ xs, (∀ y ∈ xs, ltS y m = false) → Q (.str m) H
theorem cr_minU {X : Cx} (hc : X.calm = true) : CallR X (.builtin "min") (rMinU X.K) := by
  intro pins s σ H vs us Q I r h
  obtain ⟨a, xs, rfl, hs, ne, q⟩ := h
  obtain ⟨its, rv, hl, _⟩ := I.list hs
  rw [Vals.ref1 r]
  have hlen : its.length = xs.length := by
    have z := rv.length
    rw [List.length_map] at z
    exact z.symm
  have hlt : a < s.heap.objs.size := by
    obtain ⟨_, e, _⟩ := hl.isList
    exact Heap.lt_size e
  refine call_min_walk (iter_any hl.isList fun s₂ e2 st hn => ?_)
  subst e2
  have pos : 0 < its.toArray.size := by
    rw [List.size_toArray, hlen]
    exact List.length_pos_iff.mpr ne
  let m : Str := xs.head ne
  let bt : Nat → Nat → Bool := fun i j => ltS (xs.getD i m) (xs.getD j m)
  have best : ∀ k i, i ≤ k → ltS (xs.getD i m) (xs.getD (argBest bt k) m) = false := by
    intro k
    induction k with
    | zero =>
      intro i hi
      obtain rfl : i = 0 := by omega
      exact ltS_irr _
    | succ k ih =>
      intro i hi
      show ltS (xs.getD i m) (xs.getD (if bt (k + 1) (argBest bt k) then k + 1 else argBest bt k) m) = false
      cases c : bt (k + 1) (argBest bt k) with
      | false =>
        rw [if_neg (by decide)]
        by_cases e : i = k + 1
        · rw [e]
          exact c
        · exact ih i (by omega)
      | true =>
        rw [if_pos rfl]
        by_cases e : i = k + 1
        · rw [e]
          exact ltS_irr _
        · have h1 := ih i (by omega)
          cases c2 : ltS (xs.getD i m) (xs.getD (k + 1) m) with
          | false => rfl
          | true =>
            have h2 := ltS_tr c2 (show ltS (xs.getD (k + 1) m) (xs.getD (argBest bt k) m) = true from c)
            rw [h1] at h2
            cases h2
  refine ⟨_, _, _, _, _, _, bt, rfl, Walks.list (A := X.A.in1) (I.ok.hd hc) _ a hn its.toArray, st, fun b hb => ?_, pos, fun i j vi vj s' Q' E' hi hj hq => ?_, fun v h' tk hP hk => ?_⟩
  · have sz : (s.heap.push { cls := .type "list_iterator", data := .fields #[.ref a, .int 0 0] }).objs.size = s.heap.objs.size + 1 := by
      show (s.heap.objs.push _).size = _
      rw [Array.size_push]
    show b < (s.heap.push { cls := .type "list_iterator", data := .fields #[.ref a, .int 0 0] }).objs.size
    rw [sz]
    rcases List.mem_cons.mp hb with e | hb
    · rw [e]
      exact Nat.lt_succ_self _
    · rw [List.mem_singleton.mp hb]
      exact Nat.lt_succ_of_lt hlt
  · obtain ⟨x, t, hx, rfl⟩ := vals_strs rv (i := i) (v := vi) (by simpa using hi)
    obtain ⟨y, u, hy, rfl⟩ := vals_strs rv (i := j) (v := vj) (by simpa using hj)
    replace hq : Q' (.bool (ltS (xs.getD i m) (xs.getD j m))) s' := hq
    rw [List.getD_eq_getElem?_getD, List.getD_eq_getElem?_getD, hx, hy] at hq
    exact PyProof.Rows.lt_str hq
  · obtain ⟨x, t, hx, rfl⟩ := vals_strs rv (v := v) (by simpa using hP)
    have mx := List.mem_of_getElem? hx
    have lst : ∀ y ∈ xs, ltS y x = false := fun y hy => by
      obtain ⟨i, hi, ei⟩ := List.getElem_of_mem hy
      have z := best (its.length - 1) i (by rw [hlen]; omega)
      rw [List.getD_eq_getElem?_getD, List.getD_eq_getElem?_getD, hx, List.getElem?_eq_getElem hi, ei] at z
      exact z
    replace q := q x mx lst
    refine ⟨.str x, H, I.kept fun b o eo => hk b o (fun hmem => ?_) (Heap.get?_push_of_some _ eo), ⟨t, rfl⟩, q⟩
    rcases List.mem_cons.mp hmem with e1 | hmem
    · exact absurd (e1 ▸ Heap.lt_size eo) (Nat.lt_irrefl _)
    · cases hmem
end Lamp
set_option maxHeartbeats 4000000
namespace Lamp
open PySem PySem.Spec PyProof.Rows L2
open LamX (CodeO TabS Tabs ExtN TabB GivesTo tLam lamCx lamEnv LamS)
/-! ### _law_apart_right -/
structure TxtAp (mg : Str → Option Value) : Prop where
  srt : mg "sorted" = none
  min : mg "min" = none
theorem tups_drop {H : Hp} : ∀ {ts : List Addr} {es : List Ed}, TupsAt H ts es → ∀ m, TupsAt H (ts.drop m) (es.drop m)
  | [], [], .nil, m => by simp only [List.drop_nil]; exact .nil
  | _ :: _, _ :: _, .cons r q, 0 => .cons r q
  | _ :: _, _ :: _, .cons r q, m + 1 => tups_drop q m
section
variable {P : Program} {w : World} {K : PySem.W.Frag} {mg : Str → Option Value} {base : Heap} {C CR CD CN CM : Addr} {T : List (Addr × Str)}
/-- House(rooms, e) refused for what e gives -/
theorem met_doorsT {ta : TA} {σ : L2.St} {H : Hp} {Q : VK} {o : Nat} {a : Addr} {rs : List Str} (tb : Tabs T H) (nd : rs.Nodup) (ne : rs ≠ []) (lr : rs.length < 60) (ok : ∀ r ∈ rs, nameOk r = true)
    (hta : ∀ (H1 : Hp) (R : List V → Hp → Prop), ExtN H H1 → (∀ H2 vb, Same H1 H2 → RowA K H2 a (rs.map V.str) → TellsD K H2 rs vb (some o) → R [.ref a, vb] H2) → ta σ H1 R)
    (k : ∀ H' p, ExtN H H' → Tabs T H' → H' p = some (.tup [.str "doors", .int (o : Int)]) → Q (.ref p) H') : tLam T (TMets K (mcs1 CR CD CN CM)) (fun E => tMake C (spInitA K C CR CD CN) [] E ta) σ H Q := by
  refine ⟨tb, fun H1 e1 t1 => ?_⟩
  refine hta H1 _ e1 fun H2 vb s12 ra tl => ?_
  intro x dx nx ndx ne'
  have s0 := made_same (C := C) nx ndx
  refine ⟨x, dx, .ref a, vb, rfl, upd_same, .inr ⟨a, rs, rfl, ra.up s0, nd, ne, lr, ok, .inl ⟨o, tl.up s0, fun H3 d g nd hd => ?_⟩⟩⟩
  refine ⟨⟨"BadDoors", CD, "index", "doors"⟩, by unfold mcs1; simp, rfl, d, _, rfl, hd, fun p np => ?_⟩
  have s2 := (s12.trans (made_gx nx ndx g)).trans (same_upd (o := .tup [.str "doors", .int (o : Int)]) np)
  exact k _ p (e1.trans (ExtN.of s2)) (t1.ext s2) upd_same
abbrev NAp : List Str := ["stream", "rooms", "doors", "at", "left", "apart", "room"]
theorem scAp : FnScope NAp ["stream", "rooms", "doors"] (defScope s_law_apart_right) := ⟨rfl, rfl, rfl, by decide +kernel, rfl, by decide +kernel, by decide +kernel⟩
open Classical in
theorem ok_apR {f fI c P0 : Addr} {fd dI : FuncData} (F : FunC K "_law_apart_right" s_law_apart_right f c fd) (TX : TxtS mg) (TA : TxtAp mg) (TB : TabB base mg c P0) (hmT : (P0, ("_law_apart_right.<locals>.<lambda>" : Str)) ∈ T) (hu : ∀ p ∈ T, p.1 = P0 → p.2 = ("_law_apart_right.<locals>.<lambda>" : Str))
    (EO : Stands P w K mg base 6 "_law_same" ["found", "due"] (spSG 5)) (DO : Stands P w K mg base 1 "_law_draw" ["stream", "many"] spDraw) (WO : Stands P w K mg base 2 "_law_h_way" ["doors", "one", "other"] spHWay)
    (MF : MetsF K mg (mcs1 CR CD CN CM)) (M : Mk K C fI) (GI : FnOk P w K mg base (L2.CX P w) 4 fI dI ["self", "rooms", "doors"] (spInitA K C CR CD CN)) (mC : mg "House" = some (.ref C)) (bI : L2.Binds K dI ["self", "rooms", "doors"] []) :
    FnOk P w K mg base CX0 10 f fd ["stream", "rooms", "doors"] (spRefR T) := by
  obtain ⟨fe, de, Ge, me, ke, be⟩ := EO
  obtain ⟨fd', dd, Gd, md, kd, bd⟩ := DO
  obtain ⟨fw, dw, Gw, mw, kw, bw⟩ := WO
  refine funC_ok F scAp (fun vs H Q E h => ?_) (fun A outer s H vs Q E hr h => ?_)
  · obtain ⟨a, l, p, q, n, rs, ts, es, rfl, _⟩ := h
    rfl
  · obtain ⟨a, l, p, q, n, rs, ts, es, rfl, hS, hn, tT, hp, hq, ht, gd, lrs, les, nok, lee, k⟩ := h
    have hu1 : (A.deeper (envOfC (Str.ofString "_law_apart_right") (defScope s_law_apart_right) s.heap.objs.size f (.ref c))).units + 64 < cLine := by
      have := hr.un
      omega
    refine ⟨_, pss_cons (ps_if (pt_cmpR (op_eqD hu1) (pv 2) (pe_lst pa_nil) (nomark _)) (pss_one (ps_ret pe_bl)) pss_nil)
      (pss_cons (ps_set (i := 3) scAp.nd rfl (Or.inl rfl) (pe_call Gd (hr.mono (by decide)) (by rfl) md kd bd .nil pass0 (pa_cons (pv 0) (pa_cons (pe_callB call_len_seq (by rfl) TX.len PySem.boot_len (pa_cons (pv 2) pa_nil)) pa_nil))))
      (pss_cons (ps_set (i := 4) scAp.nd rfl (Or.inr rfl) (pe_op op_cat (pe_slice sl_list (pv 2) po_none (po_some (pv 3))) (pe_slice sl_list (pv 2) (po_some (pe_op op_add (pv 3) pe_int)) po_none)))
      (pss_cons (ps_setLc (i := 5) (te := tVar 6) (own := [("room", 6)]) (g := gName 6) (tt := tTest (tOp (rEqD K) (tCall spHWay [] E0 (tCons (tVar 4) (tCons (tCB (rMinU K) (tCons (tVar 1) tNil)) (tCons (tVar 6) tNil)))) (tLst tNil))) rfl scAp.nd rfl rfl (sw_true rfl rfl rfl (by decide +kernel)) (pi_list (pe_callB cr_sortedS (by rfl) TA.srt PyProof.Rows.boot_sorted (pa_cons (pv 1) pa_nil))) (blkOk_by (N := NAp) (sc := defScope s_law_apart_right) (by decide +kernel))
          (fun _ _ _ _ _ => pg_name (i := 6) scAp.nd rfl (Or.inl rfl))
          (fun _ _ _ _ _ => by exact (pts_one (pt_cmpR (op_eqD hu1) (pe_call Gw (hr.mono (by decide)) (by rfl) mw kw bw .nil pass0 (pa_cons (pv 4) (pa_cons (pe_callB (cr_minU rfl) (by rfl) TA.min PyProof.Rows.Boot.min (pa_cons (pv 1) pa_nil)) (pa_cons (pv 6) pa_nil)))) (pe_lst pa_nil) (nomark _))))
          (fun _ _ _ _ _ => pv 6))
      (pss_cons (ps_if (pt_not (pt_val (pe_call Ge (hr.mono (by decide)) (by rfl) me ke be .nil pass0 (pa_cons (pe_mets (k := 5) (t := tHs K C CR CD CN 1 4) MF (by rfl) TB rfl hmT hu (hr.mono (by decide)) (by exact LamX.lamS_by (sc := defScope s_law_apart_right) (by decide +kernel)) rfl (fun _ _ _ _ _ => rfl)
              (fun A outer s H E f c' hr => pe_make M GI hr (by rfl) mC bI .nil (passes_call (takes_of rfl rfl rfl rfl) fun _ _ _ _ z => z) (pa_cons (pv 1) (pa_cons (pv 4) pa_nil)))) (pa_cons (pe_tup (pa_cons pe_str (pa_cons (pe_ix ix_list (pv 5) pe_int (fun _ _ => rfl)) pa_nil))) pa_nil))))) pss_dead pss_nil)
      (pss_one (ps_ret (pe_call Ge (hr.mono (by decide)) (by rfl) me ke be .nil pass0 (pa_cons (pe_mets (k := 5) (t := fun E => tMake C (spInitA K C CR CD CN) [] E (tCons (tVar 1) (tCons (tOp rCat (tVar 4) (tLst (tCons (tC .non) tNil))) tNil))) MF (by rfl) TB rfl hmT hu (hr.mono (by decide)) (by exact LamX.lamS_by (sc := defScope s_law_apart_right) (by decide +kernel)) rfl (fun _ _ _ _ _ => rfl)
              (fun A outer s H E f c' hr => pe_make M GI hr (by rfl) mC bI .nil (passes_call (takes_of rfl rfl rfl rfl) fun _ _ _ _ z => z) (pa_cons (pv 1) (pa_cons (pe_op op_cat (pv 4) (pe_lst (pa_cons pe_non pa_nil))) pa_nil)))) (pa_cons (pe_tup (pa_cons pe_str (pa_cons (pe_callB call_len_seq (by rfl) TX.len PySem.boot_len (pa_cons (pv 4) pa_nil)) pa_nil))) pa_nil))))))))), ?_⟩
    have l0 : (rs.map V.str).length = rs.length := List.length_map _
    have ok : ∀ r ∈ rs, nameOk r = true := fun r hr => (nok r hr).1
    have sok : ∀ r ∈ rs, PyData.strOk r = true := fun r hr => strOk_name (ok r hr)
    have lts : ts.length = es.length := paired_len ht
    have l2 : (ts.map V.ref).length = es.length := by rw [List.length_map, lts]
    refine ⟨_, rfl, (by show 0 ≤ sizeLine; decide), fun z0 nz0 => ?_⟩
    have gH1 : Gr H (upd H z0 (.lst [])) := Gr.upd nz0
    have ez0 : upd H z0 (.lst []) z0 = some (.lst []) := upd_same
    generalize upd H z0 (.lst []) = H1 at gH1 ez0 ⊢
    have ht1 := tups_up ht gH1.s
    refine ⟨_, _, .lst (SqL.of (gH1.s _ _ hq)) (dpAll_pd ht1), .lst (SqL.of ez0) .nil, shaped_pds fun e he => ⟨sok _ (gd.ends e he).1, sok _ (gd.ends e he).2.1⟩, by decide +kernel, ?_⟩
    by_cases e0 : es = []
    · subst e0
      exact ⟨_, rfl, iteT2 rfl (k H1 n (by omega) (GsN.gs gH1.gs) (hS.stay gH1.s) (tT.ext gH1.s))⟩
    obtain ⟨e1, et, ees⟩ : ∃ e1 et, es = e1 :: et := by
      cases es with
      | nil => exact absurd rfl e0
      | cons e et => exact ⟨e, et, rfl⟩
    refine ⟨_, rfl, iteF2 (by rw [ees]; rfl) ?_⟩
    have pes : 0 < es.length := by rw [ees]; exact Nat.succ_pos _
    refine ⟨_, rfl, _, rfl, q, _, rfl, .inl (SqL.of (gH1.s _ _ hq)), a, l, n, ((es.length : Nat) : Int), by rw [l2]; rfl, hS.stay gH1.s, by omega, by omega, by omega, fun H2 d sb2 s2 d0 d1 => ?_⟩
    have g2 : Gs a l H1 H2 := Gs.of sb2 s2
    obtain ⟨m, rfl⟩ : ∃ m : Nat, d = (m : Int) := ⟨d.toNat, by omega⟩
    have lm : m < es.length := by omega
    have gH2 : Gs a l H H2 := gH1.gs.trans g2
    have hp2 := gH2.keep hS hp (ok_strs _)
    have hq2 := gH2.keep hS hq (ok_refs _)
    have ht2 := TupsAt.gs ht hS gH2
    have tT2 := Tabs.gs tT hS gH2
    have cp : cutV (ts.map V.ref) none (some (m : Int)) = (ts.take m).map V.ref := by rw [cut_pre (by rw [l2]; omega), List.map_take]
    have cs : cutV (ts.map V.ref) (some ((m : Int) + 1)) none = (ts.drop (m + 1)).map V.ref := by rw [show (m : Int) + 1 = ((m + 1 : Nat) : Int) by omega, cut_suf (by rw [l2]; omega), List.map_drop]
    refine ⟨_, rfl, _, rfl, _, rfl, q, _, rfl, SqL.of hq2, fun b1 nb1 => ?_⟩
    rw [cp]
    have gJ1 : Gr H2 (upd H2 b1 (.lst ((ts.take m).map V.ref))) := Gr.upd nb1
    have eb1 : upd H2 b1 (.lst ((ts.take m).map V.ref)) b1 = some (.lst ((ts.take m).map V.ref)) := upd_same
    generalize upd H2 b1 (.lst ((ts.take m).map V.ref)) = J1 at gJ1 eb1 ⊢
    refine ⟨_, rfl, _, rfl, _, _, rfl, rfl, _, rfl, q, _, rfl, SqL.of (gJ1.s _ _ hq2), fun b2 nb2 => ?_⟩
    rw [cs]
    have gJ2 : Gr J1 (upd J1 b2 (.lst ((ts.drop (m + 1)).map V.ref))) := Gr.upd nb2
    have eb2 : upd J1 b2 (.lst ((ts.drop (m + 1)).map V.ref)) b2 = some (.lst ((ts.drop (m + 1)).map V.ref)) := upd_same
    generalize upd J1 b2 (.lst ((ts.drop (m + 1)).map V.ref)) = J2 at gJ2 eb2 ⊢
    refine ⟨b1, b2, _, _, rfl, rfl, gJ2.s _ _ eb1, eb2, (by rw [List.length_map, List.length_map, List.length_take, List.length_drop]; exact Nat.le_trans (show min m ts.length + (ts.length - (m + 1)) ≤ 100 by omega) (by decide)), fun LF nLF => ?_⟩
    rw [← List.map_append]
    obtain ⟨ls, els⟩ : ∃ ls, ls = ts.take m ++ ts.drop (m + 1) := ⟨_, rfl⟩
    obtain ⟨le, ele⟩ : ∃ le, le = es.take m ++ es.drop (m + 1) := ⟨_, rfl⟩
    have pme : es.Perm (es[m] :: le) := by
      rw [ele]
      exact (List.Perm.of_eq (split_at (List.getElem?_eq_getElem lm))).trans List.perm_middle
    have mle : ∀ e ∈ le, e ∈ es := fun e he => pme.mem_iff.mpr (List.mem_cons_of_mem _ he)
    rw [← els]
    have gJ3 : Gr J2 (upd J2 LF (.lst (ls.map V.ref))) := Gr.upd nLF
    have eLF : upd J2 LF (.lst (ls.map V.ref)) LF = some (.lst (ls.map V.ref)) := upd_same
    generalize upd J2 LF (.lst (ls.map V.ref)) = J3 at gJ3 eLF ⊢
    have g3 : Gr H2 J3 := (gJ1.trans gJ2).trans gJ3
    have htl : TupsAt J3 ls le := by
      rw [els, ele]
      exact tups_up (paired_app (tups_take ht2 m) (tups_drop ht2 (m + 1))) g3.s
    have lle : le.length + 1 = es.length := by
      have := pme.length_eq
      rw [List.length_cons] at this
      omega
    have lls : ls.length = le.length := paired_len htl
    have pre : PreH rs le := ⟨gd.nodup, gd.ne, gd.len, by omega, fun d hd => gd.ends d (mle d hd), fun e' l' p' c' => gd.noring e' (es[m] :: l') (pme.trans ((List.Perm.cons _ p').trans (List.Perm.swap _ _ _))) (c'.mono fun x hx => List.mem_cons_of_mem _ hx)⟩
    clear eb1 eb2
    have hp3 := g3.s _ _ hp2
    refine ⟨_, rfl, p, rs, rfl, SqL.of hp3, by omega, fun rs' so prm srt nso => ?_⟩
    have gJ4 : Gr J3 (upd J3 so (.lst (rs'.map V.str))) := Gr.upd nso
    have eso : upd J3 so (.lst (rs'.map V.str)) so = some (.lst (rs'.map V.str)) := upd_same
    generalize upd J3 so (.lst (rs'.map V.str)) = J4 at gJ4 eso ⊢
    refine ⟨so, rfl, ⟨_, SqL.of eso⟩, fun D hD => ?_⟩
    obtain ⟨h, rt, ers⟩ : ∃ h rt, rs' = h :: rt := by
      cases rs' with
      | nil => exact absurd prm.symm.eq_nil gd.ne
      | cons r0 rt => exact ⟨r0, rt, rfl⟩
    have hleast : ∀ y ∈ rs, ltS y h = false := fun y hy => by
      have my := prm.mem_iff.mpr hy
      rw [ers] at my
      have sp := sortedS_pair.mp srt
      rw [ers] at sp
      rcases List.mem_cons.mp my with rfl | my
      · exact ltS_irr _
      · exact (List.pairwise_cons.mp sp).1 y my
    have mh : h ∈ rs := prm.mem_iff.mp (by rw [ers]; exact List.mem_cons_self)
    have apE : apart rs' le = rs'.filter fun x => !decide (Conn le h x) := by
      unfold apart
      rw [ers]
      refine List.filter_congr fun x _ => ?_
      rw [kept_all fun d hd => ⟨by rw [← ers]; exact prm.mem_iff.mpr (pre.ends d hd).1, by rw [← ers]; exact prm.mem_iff.mpr (pre.ends d hd).2.1⟩]
    have soA : ∀ y ∈ allOf h le, PyData.strOk y = true := fun y hy => by
      rcases List.mem_cons.mp hy with rfl | hy
      · exact sok _ mh
      · obtain ⟨e, me, he⟩ := List.mem_flatMap.mp hy
        have en := pre.ends e me
        simp only [List.mem_cons, List.not_mem_nil, or_false] at he
        rcases he with rfl | rfl
        · exact sok _ en.1
        · exact sok _ en.2.1
    refine lc_it (walk_list (xs := rs'.map V.str)) (fun j H' => H' D = some (.lst (((rs'.take j).filter fun x => !decide (Conn le h x)).map V.str)) ∧ Gr J4 H') ⟨upd_same, Gr.upd hD⟩ (fun j H' _ q => SqL.of (q.2.s _ _ eso)) ?_ ?_
    · rintro j v H' H'' hj ⟨q1, q2⟩ ⟨rfl, hv⟩
      rw [List.getElem?_map] at hv
      obtain ⟨x, ex, rfl⟩ := Option.map_eq_some_iff.mp hv
      have g34 := gJ4.trans q2
      refine ⟨rfl, _, rfl, _, rfl, p, rs, rfl, SqL.of (g34.s _ _ hp3), gd.ne, fun m0 mm0 least => ?_⟩
      obtain rfl : h = m0 := str_tot (least h mh) (hleast m0 mm0)
      refine ⟨_, rfl, LF, h, x, ls, le, rfl, g34.s _ _ eLF, tups_up htl g34.s, by omega, fun y hy => ?_, fun H5 pp L spc eL g5 npp => ?_⟩
      · exact soA y hy
      have okL : ∀ y ∈ L, PyData.strOk y = true := fun y hy => by
        rcases spc with ⟨_, rfl⟩ | ⟨sp, _⟩
        · cases hy
        · exact soA y (sp.sub y hy)
      have eL0 : decide (L = []) = !decide (Conn le h x) := by
        rcases spc with ⟨nc, rfl⟩ | ⟨sp, la⟩
        · rw [decide_eq_false nc]
          rfl
        · rw [decide_eq_true (sp.last la), decide_eq_false sp.ne]
          rfl
      refine ⟨(by show 0 ≤ sizeLine; decide), fun z5 nz5 => ?_⟩
      have gH6 : Gr H5 (upd H5 z5 (.lst [])) := Gr.upd nz5
      have ez5 : upd H5 z5 (.lst []) z5 = some (.lst []) := upd_same
      generalize upd H5 z5 (.lst []) = H6 at gH6 ez5 ⊢
      refine ⟨.list (L.map PyData.str), .list [], .lst (SqL.of (gH6.s _ _ eL)) (dpAll_strs L), .lst (SqL.of ez5) .nil, shaped_strs okL, by decide, _, rfl, ?_⟩
      rw [show PyData.eqv (.list (L.map PyData.str)) (.list []) = decide (L = []) from eqv_lists L [], eL0]
      have g56 := g5.trans gH6
      have tk : rs'.take (j + 1) = rs'.take j ++ [x] := by
        rw [List.take_add_one, ex]
        rfl
      have lj : ((rs'.take j).filter fun x => !decide (Conn le h x)).length ≤ 12 := Nat.le_trans (List.length_filter_le _ _) (by rw [List.length_take, prm.length_eq]; omega)
      cases cx : decide (Conn le h x) with
      | true =>
        refine iteF2 rfl ⟨?_, q2.trans g56⟩
        rw [tk, List.filter_append, List.filter_cons, cx]
        show H6 D = some (.lst ((_ ++ []).map V.str))
        rw [List.append_nil]
        exact g56.s _ _ q1
      | false =>
        refine iteT2 rfl ⟨_, rfl, _, g56.s _ _ q1, ?_, ?_, (q2.trans g56).put hD⟩
        · rw [List.length_map]
          exact Nat.lt_of_le_of_lt lj (by decide)
        · rw [upd_same, tk, List.filter_append, List.filter_cons, cx, List.map_append]
          rfl
    rintro H7 ⟨q1, q2⟩
    rw [List.length_map, List.take_length, ← apE] at q1
    obtain ⟨mm, mt, eap⟩ : ∃ mm mt, apart rs' le = mm :: mt := by
      cases e : apart rs' le with
      | cons x xs => exact ⟨x, xs, rfl⟩
      | nil =>
        have all : ∀ x ∈ rs, Conn le h x := fun x hx => by
          rw [apE] at e
          have z := List.filter_eq_nil_iff.mp e x (prm.mem_iff.mpr hx)
          simpa using z
        have en := gd.ends es[m] (List.getElem_mem lm)
        exact absurd ((all _ en.1).symm.trans (all _ en.2.1)) (gd.noring es[m] le pme)
    rw [eap] at q1
    have g27 : Gr H2 H7 := g3.trans (gJ4.trans q2)
    have hp7 := g27.s _ _ hp2
    have eLF7 := (gJ4.trans q2).s _ _ eLF
    have htl7 := tups_up htl (gJ4.trans q2).s
    have tb7 := tT2.ext g27.s
    have s7 := s2.stay g27.s
    have rowL : ∀ {G : Hp} {z : Addr} {ws : List V}, G z = some (.lst ws) → RowA K G z ws := fun h => .inl ⟨SqL.of h, fun H' s => .base (.lst (s _ _ h))⟩
    have dr7 : DoorsAt K H7 rs LF le := ⟨_, rowL eLF7, doors_refs htl7 pre.ends⟩
    refine met_joined (i := 1) (j := 4) rfl rfl tb7 (rowL hp7) ok dr7 pre prm srt (by rw [eap]; rfl) fun C1 p1 e1 tC1 ep1 => ?_
    refine ⟨_, rfl, D, _, 0, .str mm, rfl, rfl, SqL.of (e1 _ _ q1 fun _ z => by cases z), atI_nat (j := 0) rfl, (by show 2 ≤ sizeLine; decide), fun T0 nT0 => ?_⟩
    have d1 : Gr C1 (upd C1 T0 (.tup [.str "joined", .str mm])) := Gr.upd nT0
    refine ⟨.ref p1, .ref T0, rfl, (Tg.tup (n := 0) (d1.s _ _ ep1) upd_same (by show 2 < 100000; decide) rfl (Tg.two (.sc (.str _)) (.sc (.str _)))).mono (by decide), fun D2 s12 => ?_⟩
    refine ⟨_, rfl, iteF2 rfl ?_⟩
    have e72 : ExtN H7 D2 := e1.trans (ExtN.of (d1.s.trans s12))
    have tD2 := tC1.ext (d1.s.trans s12)
    have hp8 := e72 _ _ hp7 fun _ z => by cases z
    have eLF8 := e72 _ _ eLF7 fun _ z => by cases z
    have dr8 := dr7.extN e72
    have htl8 := TupsAt.extN htl7 e72
    -- left + [None]
    refine met_doorsT (a := p) (o := le.length) tD2 gd.nodup gd.ne (by omega) ok (fun F1 R f1 kR => ?_) fun G3 p2 eF tF ep2 => ?_
    · have eLF9 := f1 _ _ eLF8 fun _ z => by cases z
      refine ⟨_, rfl, _, rfl, (by show 1 ≤ sizeLine; decide), fun w1 nw1 => ?_⟩
      have gF2 : Gr F1 (upd F1 w1 (.lst [.non])) := Gr.upd nw1
      have ew1 : upd F1 w1 (.lst [.non]) w1 = some (.lst [.non]) := upd_same
      generalize upd F1 w1 (.lst [.non]) = F2 at gF2 ew1 ⊢
      refine ⟨LF, w1, _, _, rfl, rfl, gF2.s _ _ eLF9, ew1, (by rw [List.length_map]; exact Nat.le_trans (show ls.length + 1 ≤ 100 by omega) (by decide)), fun w2 nw2 => ?_⟩
      have gF3 : Gr F2 (upd F2 w2 (.lst (ls.map V.ref ++ [.non]))) := Gr.upd nw2
      have ew2 : upd F2 w2 (.lst (ls.map V.ref ++ [.non])) w2 = some (.lst (ls.map V.ref ++ [.non])) := upd_same
      generalize upd F2 w2 (.lst (ls.map V.ref ++ [.non])) = F3 at gF3 ew2 ⊢
      have g13 := gF2.trans gF3
      refine kR F3 (.ref w2) g13.s (rowL (g13.s _ _ (f1 _ _ hp8 fun _ z => by cases z))) (.inr ⟨w2, _, ls.map V.ref, le, [.non], rfl, rowL ew2, rfl, doors_refs (tups_up (TupsAt.extN htl8 f1) g13.s) pre.ends, pre.doors, .inr ⟨.non, [], rfl, by rw [List.length_map, lls], .inl (.inl ⟨_, fun _ _ => .base .non, kitAny_cons (b := false) (kit_ty (by decide +kernel)) (fun _ => kitAny_cons (b := false) (kit_ty (by decide +kernel)) (fun _ => rfl) (fun z => by cases z)) (fun z => by cases z)⟩)⟩⟩)
    refine ⟨_, rfl, LF, _, rfl, .inl (SqL.of (eF _ _ eLF8 fun _ z => by cases z)), (by show 2 ≤ sizeLine; decide), fun T1 nT1 => ?_⟩
    have d2 : Gr G3 (upd G3 T1 (.tup [.str "doors", .int ((ls.map V.ref).length : Int)])) := Gr.upd nT1
    refine ⟨.ref p2, .ref T1, rfl, (Tg.tup (n := 0) (d2.s _ _ ep2) upd_same (by show 2 < 100000; decide) rfl (Tg.two (.sc (.str _)) (by rw [List.length_map, lls]; exact .sc (.int _)))).mono (by decide), fun D3 s13 => ?_⟩
    have sE := d2.s.trans s13
    have eAll : ExtN H7 D3 := (e72.trans eF).trans (ExtN.of sE)
    exact k D3 (n + 1) (by omega) ((GsN.gs (gH2.trans g27.gs)).trans (GsN.ext eAll)) (s7.extN eAll) (tF.ext sE)
end
end Lamp
set_option maxHeartbeats 8000000
namespace Lamp
open PySem PySem.Spec PyProof.Rows L2
open LamX (CodeO TabS Tabs ExtN TabB GivesTo tLam lamCx lamEnv LamS)
/-! ### _law_h_beside, in order -/
def spBesideS : Sp := fun vs H Q _ => ∃ (q : Addr) (r : Str) (ts : List Addr) (es : List Ed), vs = [.ref q, .str r] ∧ H q = some (.lst (ts.map V.ref)) ∧ TupsAt H ts es ∧ es.length < 30 ∧
  ∀ H' p (ys : List Str), ys.Perm (outs r es ++ ins_ r es) → sortedS ys = true → ys.length < 64 → Gr H H' → H p = none → H' p = some (.lst (ys.map V.str)) → Q (.ref p) H'
/-- the rooms beside one, told by the doors as drawn -/
theorem near_perm {rs rs' : List Str} {es ds : List Ed} (g : GoodH rs es) (g' : GoodH rs' ds) (pm : rs'.Perm rs) (nr : ∀ e ∈ es, ∃ d ∈ ds, Nrm d e) (rn : ∀ d ∈ ds, ∃ e ∈ es, Nrm e d) {r : Str} (hr : r ∈ rs) : (nearOf ds r).Perm (outs r es ++ ins_ r es) := by
  have pp := (prs_perm g g' pm nr rn).filterMap (fun e => if e.1 = r then some e.2 else none)
  have e1 : (es ++ es.map fun e => (e.2, e.1)).filterMap (fun e => if e.1 = r then some e.2 else none) = outs r es ++ ins_ r es := by
    rw [List.filterMap_append, List.filterMap_map]
    rfl
  have e2 : ∀ {l : List Str}, l.Nodup → (prs l ds).filterMap (fun e => if e.1 = r then some e.2 else none) = if r ∈ l then nearOf ds r else [] := fun {l} => by
    induction l with
    | nil => exact fun _ => rfl
    | cons x l ih =>
      intro nd
      obtain ⟨nx, nd⟩ := List.nodup_cons.mp nd
      have one : prs (x :: l) ds = ((nearOf ds x).map fun o => (x, o)) ++ prs l ds := rfl
      rw [one, List.filterMap_append, ih nd, List.filterMap_map]
      by_cases c : x = r
      · subst c
        rw [if_neg nx, if_pos List.mem_cons_self, List.append_nil]
        have : ((fun e : Ed => if e.1 = x then some e.2 else none) ∘ fun o => (x, o)) = some := by
          funext o
          exact if_pos rfl
        rw [this, List.filterMap_some]
      · have : ((fun e : Ed => if e.1 = r then some e.2 else none) ∘ fun o => (x, o)) = fun _ => none := by
          funext o
          exact if_neg c
        rw [this]
        have n0 : (nearOf ds x).filterMap (fun _ => (none : Option Str)) = [] := by
          induction nearOf ds x with
          | nil => rfl
          | cons y ys ih => exact ih
        rw [n0, List.nil_append]
        by_cases m : r ∈ l
        · rw [if_pos m, if_pos (List.mem_cons_of_mem _ m)]
        · rw [if_neg m, if_neg fun z => (List.mem_cons.mp z).elim (fun e => c e.symm) m]
  rw [e1, e2 g'.nodup, if_pos (pm.mem_iff.mpr hr)] at pp
  exact pp
section
variable {P : Program} {w : World} {K : PySem.W.Frag} {mg : Str → Option Value} {base : Heap} {C CR CD CN CM : Addr} {T : List (Addr × Str)}
theorem ok_besideS {f : Addr} {fd : FuncData} (F : Fun K "_law_h_beside" "_law_h_beside" s_law_h_beside f fd) (T : TxtK mg) : FnOk P w K mg base CX0 1 f fd ["doors", "room"] spBesideS := by
  refine F.ok scHb (fun vs H Q E h => ?_) (fun cdv A outer s H vs Q E hr h => ?_)
  · obtain ⟨q, r, ts, es, rfl, _⟩ := h
    rfl
  · obtain ⟨q, r, ts, es, rfl, hq, ht, hl, k⟩ := h
    refine ⟨_, pss_cons (ps_set (i := 2) scHb.nd rfl (Or.inl rfl) (pe_op op_cat
        (pe_lc (te := tVar 4) (own := [("one", 3), ("other", 4)]) (g := gTup K 2 (gCons (gName 3) (gCons (gName 4) gNil))) (tt := tTest (tOp rEq (tVar 3) (tVar 1))) rfl scHb.nd (pi_list (pv 0)) (blkOk_by (N := NHb) (sc := defScope s_law_h_beside) (by decide +kernel))
          (fun _ _ _ _ _ => pg_tup rfl (pgs_cons (pg_name (i := 3) scHb.nd rfl (Or.inl rfl)) (pgs_cons (pg_name (i := 4) scHb.nd rfl (Or.inl rfl)) pgs_nil))) (fun _ _ _ _ _ => by exact (pts_one (pt_cmpR op_eq (pv 3) (pv 1) (nomark _)))) (fun _ _ _ _ _ => pv 4))
        (pe_lc (te := tVar 3) (own := [("one", 3), ("other", 4)]) (g := gTup K 2 (gCons (gName 3) (gCons (gName 4) gNil))) (tt := tTest (tOp rEq (tVar 4) (tVar 1))) rfl scHb.nd (pi_list (pv 0)) (blkOk_by (N := NHb) (sc := defScope s_law_h_beside) (by decide +kernel))
          (fun _ _ _ _ _ => pg_tup rfl (pgs_cons (pg_name (i := 3) scHb.nd rfl (Or.inl rfl)) (pgs_cons (pg_name (i := 4) scHb.nd rfl (Or.inl rfl)) pgs_nil))) (fun _ _ _ _ _ => by exact (pts_one (pt_cmpR op_eq (pv 4) (pv 1) (nomark _)))) (fun _ _ _ _ _ => pv 3))))
      (pss_one (ps_ret (pe_callB cr_sortedS (by rfl) T.srt PyProof.Rows.boot_sorted (pa_cons (pv 2) pa_nil)))), ?_⟩
    have le : ts.length = es.length := paired_len ht
    have len1 : ∀ i, (outs r (es.take i)).length ≤ es.length := fun i => Nat.le_trans (List.length_filterMap_le _ _) (by rw [List.length_take]; exact Nat.min_le_right _ _)
    have len2 : ∀ i, (ins_ r (es.take i)).length ≤ es.length := fun i => Nat.le_trans (List.length_filterMap_le _ _) (by rw [List.length_take]; exact Nat.min_le_right _ _)
    refine ⟨_, rfl, q, rfl, ⟨_, SqL.of hq⟩, fun D hD => ?_⟩
    refine lc_it (walk_list (xs := ts.map V.ref)) (fun i H' => H' D = some (.lst ((outs r (es.take i)).map V.str)) ∧ Gr H H') ⟨upd_same, Gr.upd hD⟩ (fun i H' _ g => SqL.of (g.2.s _ _ hq)) ?_ ?_
    · rintro i v H' H'' hi ⟨q1, q2⟩ ⟨rfl, hv⟩
      rw [List.getElem?_map] at hv
      obtain ⟨t, et, rfl⟩ := Option.map_eq_some_iff.mp hv
      obtain ⟨e, ee, te⟩ := paired_at ht et
      have tk : es.take (i + 1) = es.take i ++ [e] := by
        rw [List.take_add_one, ee]
        rfl
      refine ⟨t, _, rfl, SqT.of (q2.s _ _ te), rfl, _, _, rfl, _, _, rfl, rfl, rfl, ?_⟩
      refine ⟨_, rfl, _, rfl, rfl, _, rfl, ?_⟩
      have ot : outs r (es.take (i + 1)) = outs r (es.take i) ++ outs r [e] := by
        unfold outs
        rw [tk, List.filterMap_append]
      by_cases c : e.1 = r
      · have oe : outs r [e] = [e.2] := by
          unfold outs
          rw [List.filterMap_cons, if_pos c]
          rfl
        refine iteT2 (by rw [c]; simp) ?_
        refine ⟨_, rfl, _, q1, ?_, ?_, q2.put hD⟩
        · rw [List.length_map]
          exact Nat.lt_of_lt_of_le (Nat.lt_of_le_of_lt (len1 i) hl) (by decide)
        · rw [upd_same, ot, oe, List.map_append]
          rfl
      · have oe : outs r [e] = [] := by
          unfold outs
          rw [List.filterMap_cons, if_neg c]
          rfl
        refine iteF2 (by simp [c]) ?_
        refine ⟨?_, q2⟩
        rw [ot, oe, List.append_nil]
        exact q1
    · rintro H1 ⟨q1, q2⟩
      rw [List.length_map, le, List.take_length] at q1
      refine ⟨_, rfl, q, rfl, ⟨_, SqL.of (q2.s _ _ hq)⟩, fun B hB => ?_⟩
      refine lc_it (walk_list (xs := ts.map V.ref)) (fun i H' => H' B = some (.lst ((ins_ r (es.take i)).map V.str)) ∧ Gr H1 H') ⟨upd_same, Gr.upd hB⟩ (fun i H' _ g => SqL.of ((q2.trans g.2).s _ _ hq)) ?_ ?_
      · rintro i v H' H'' hi ⟨w1, w2⟩ ⟨rfl, hv⟩
        rw [List.getElem?_map] at hv
        obtain ⟨t, et, rfl⟩ := Option.map_eq_some_iff.mp hv
        obtain ⟨e, ee, te⟩ := paired_at ht et
        have tk : es.take (i + 1) = es.take i ++ [e] := by
          rw [List.take_add_one, ee]
          rfl
        refine ⟨t, _, rfl, SqT.of ((q2.trans w2).s _ _ te), rfl, _, _, rfl, _, _, rfl, rfl, rfl, ?_⟩
        refine ⟨_, rfl, _, rfl, rfl, _, rfl, ?_⟩
        have ot : ins_ r (es.take (i + 1)) = ins_ r (es.take i) ++ ins_ r [e] := by
          unfold ins_
          rw [tk, List.filterMap_append]
        by_cases c : e.2 = r
        · have oe : ins_ r [e] = [e.1] := by
            unfold ins_
            rw [List.filterMap_cons, if_pos c]
            rfl
          refine iteT2 (by rw [c]; simp) ?_
          refine ⟨_, rfl, _, w1, ?_, ?_, w2.put hB⟩
          · rw [List.length_map]
            exact Nat.lt_of_lt_of_le (Nat.lt_of_le_of_lt (len2 i) hl) (by decide)
          · rw [upd_same, ot, oe, List.map_append]
            rfl
        · have oe : ins_ r [e] = [] := by
            unfold ins_
            rw [List.filterMap_cons, if_neg c]
            rfl
          refine iteF2 (by simp [c]) ?_
          refine ⟨?_, w2⟩
          rw [ot, oe, List.append_nil]
          exact w1
      · rintro H2 ⟨w1, w2⟩
        rw [List.length_map, le, List.take_length] at w1
        have l1 := len1 es.length
        have l2 := len2 es.length
        rw [List.take_length] at l1 l2
        refine ⟨D, B, _, _, rfl, rfl, w2.s _ _ q1, w1, (by rw [List.length_map, List.length_map]; exact Nat.le_trans (show (outs r es).length + (ins_ r es).length ≤ 100 by omega) (by decide)), fun p np => ?_⟩
        have g3 := (q2.trans w2).trans (Gr.upd (o := .lst ((outs r es).map V.str ++ (ins_ r es).map V.str)) np)
        have ep : upd H2 p (.lst ((outs r es).map V.str ++ (ins_ r es).map V.str)) p = some (.lst ((outs r es ++ ins_ r es).map V.str)) := by
          rw [upd_same, List.map_append]
        have ls : (outs r es ++ ins_ r es).length < 64 := by
          rw [List.length_append]
          omega
        refine ⟨_, rfl, p, outs r es ++ ins_ r es, rfl, .inl (.inl ep), ls, fun ys b py sy nb => ?_⟩
        exact k _ b ys py sy (by rw [py.length_eq]; exact ls) (g3.trans (Gr.upd nb)) (g3.n _ nb) upd_same
end
end Lamp
set_option maxHeartbeats 4000000
namespace Lamp
open PySem PySem.Spec PyProof.Rows L2
open LamX (CodeO TabS Tabs ExtN TabB GivesTo tLam lamCx lamEnv LamS)
/-! ### _law_beside_right -/
section
variable {P : Program} {w : World} {K : PySem.W.Frag} {mg : Str → Option Value} {base : Heap} {C CR CD CN CM : Addr} {T : List (Addr × Str)}
/-- a house as drawn and as told -/
structure Told (H : Hp) (C h p q : Addr) (rs rs' : List Str) (ts : List Addr) (es ds : List Ed) : Prop where
  hh : HouseAt H C h rs' ds
  hp : H p = some (.lst (rs.map V.str))
  hq : H q = some (.lst (ts.map V.ref))
  ht : TupsAt H ts es
  gd : GoodH rs es
  gd' : GoodH rs' ds
  pm : rs'.Perm rs
  so : sortedS rs' = true
  nr : ∀ e ∈ es, ∃ d ∈ ds, Nrm d e
  rn : ∀ d ∈ ds, ∃ e ∈ es, Nrm e d
  asc : Asc ds
  lrs : rs.length ≤ 12
  les : es.length < 30
  nok : ∀ r ∈ rs, NokN r
theorem Told.extN {H H' : Hp} {h p q : Addr} {rs rs' : List Str} {ts : List Addr} {es ds : List Ed} (t : Told H C h p q rs rs' ts es ds) (e : ExtN H H') : Told H' C h p q rs rs' ts es ds :=
  ⟨t.hh.extN e, e _ _ t.hp fun _ z => (by cases z), e _ _ t.hq fun _ z => (by cases z), TupsAt.extN t.ht e, t.gd, t.gd', t.pm, t.so, t.nr, t.rn, t.asc, t.lrs, t.les, t.nok⟩
def spBsR (C : Addr) (T : List (Addr × Str)) : Sp := fun vs H Q _ => ∃ (h p q : Addr) (rs rs' : List Str) (ts : List Addr) (es ds : List Ed), vs = [.ref h, .ref p, .ref q] ∧ Tabs T H ∧ Told H C h p q rs rs' ts es ds ∧ ∀ H', ExtN H H' → Tabs T H' → Q (.bl true) H'
theorem tgs_ext {H H' : Hp} (s : ExtN H H') {n : Nat} {x y : V} (h : Tg H n x y) : Tg H' n x y := by
  induction h with
  | sc h => exact .sc h
  | lst ha hb hl le _ ih => exact .lst (s _ _ ha fun _ z => by cases z) (s _ _ hb fun _ z => by cases z) hl le ih
  | tup ha hb hl le _ ih => exact .tup (s _ _ ha fun _ z => by cases z) (s _ _ hb fun _ z => by cases z) hl le ih
  | dK ha hb hl ke _ ih => exact .dK (s _ _ ha fun _ z => by cases z) (s _ _ hb fun _ z => by cases z) hl ke ih
  | dT ha hb hl => exact .dT (s _ _ ha fun _ z => by cases z) (s _ _ hb fun _ z => by cases z) hl
def spBesT (C : Addr) : Sp := fun vs H Q _ => ∃ (h : Addr) (z : Str) (rs : List Str) (ds : List Ed), vs = [.ref h, .str z] ∧ HouseAt H C h rs ds ∧ z ∈ rs ∧ ∀ H' p, H' p = some (.lst ((nearOf ds z).map V.str)) → Gr H H' → H p = none → Q (.ref p) H'
abbrev NBs : List Str := ["house", "rooms", "doors", "room", "odd"]
theorem scBs : FnScope NBs ["house", "rooms", "doors"] (defScope s_law_beside_right) := ⟨rfl, rfl, rfl, by decide +kernel, rfl, by decide +kernel, by decide +kernel⟩
theorem ok_bsR {f c P0 : Addr} {fd : FuncData} (F : FunC K "_law_beside_right" s_law_beside_right f c fd) (TB : TabB base mg c P0) (hmT : (P0, ("_law_beside_right.<locals>.<lambda>" : Str)) ∈ T) (hu : ∀ p ∈ T, p.1 = P0 → p.2 = ("_law_beside_right.<locals>.<lambda>" : Str))
    (EO : Stands P w K mg base 6 "_law_same" ["found", "due"] (spSG 5)) (BO : Stands P w K mg base 1 "_law_h_beside" ["doors", "room"] spBesideS) (XB : StandsX P w K mg base 4 "beside" ["house", "room"] (spBesR K C CM)) (MF : MetsF K mg (mcs1 CR CD CN CM)) :
    FnOk P w K mg base CX0 10 f fd ["house", "rooms", "doors"] (spBsR C T) := by
  have XBc : Stands P w K mg base 4 "beside" ["house", "room"] (spBesT C) := XB.calm fun vs H Q E z => by
    obtain ⟨h, z, rs, ds, e, hh, m, k⟩ := z
    exact ⟨h, .str z, rs, ds, e, hh, .inl ⟨z, rfl, m, k⟩⟩
  obtain ⟨fe, de, Ge, me, ke, be⟩ := EO
  obtain ⟨fb, db, Gb, mb, kb, bb⟩ := BO
  obtain ⟨c1, j1, C1, n1, l1, o1⟩ := XBc
  obtain ⟨g1, e1, G1, m1, k1, b1⟩ := XB
  refine funC_ok F scBs (fun vs H Q E h => ?_) (fun A outer s H vs Q E hr h => ?_)
  · obtain ⟨h, p, q, rs, rs', ts, es, ds, rfl, _⟩ := h
    rfl
  · obtain ⟨h, p, q, rs, rs', ts, es, ds, rfl, tT, td, k⟩ := h
    refine ⟨_, pss_cons (ps_for PassesOwn.never rfl (pi_list (pv 1)) (pg_name (i := 3) scBs.nd rfl (Or.inl rfl))
        (pss_cons (ps_expr (pe_bm PySem.F.plainAttrs_list PySem.F.slot_list_append PySem.F.type_list_append mt_append (pe_call C1 (hr.mono (by decide)) (by rfl) n1 l1 o1 .nil pass0 (pa_cons (pv 0) (pa_cons (pv 3) pa_nil))) (pa_cons pe_str pa_nil) (by rfl) (by rfl)))
        (pss_one (ps_if (pt_not (pt_val (pe_call Ge (hr.mono (by decide)) (by rfl) me ke be .nil pass0 (pa_cons (pe_call C1 (hr.mono (by decide)) (by rfl) n1 l1 o1 .nil pass0 (pa_cons (pv 0) (pa_cons (pv 3) pa_nil))) (pa_cons (pe_call Gb (hr.mono (by decide)) (by rfl) mb kb bb .nil pass0 (pa_cons (pv 2) (pa_cons (pv 3) pa_nil))) pa_nil))))) pss_dead pss_nil))))
      (pss_cons (ps_for PassesOwn.never rfl (pi_tup (pe_tup (pa_cons pe_str (pa_cons pe_str (pa_cons pe_non (pa_cons pe_int (pa_cons pe_bl (pa_cons (pe_lst pa_nil) (pa_cons (pe_tup (pa_cons pe_str pa_nil)) (pa_cons pe_dnewK pa_nil)))))))))) (pg_name (i := 4) scBs.nd rfl (Or.inr rfl))
        (pss_one (ps_if (pt_not (pt_val (pe_call Ge (hr.mono (by decide)) (by rfl) me ke be .nil pass0 (pa_cons (pe_mets (k := 4) (t := tBs K C CM 0 4) MF (by rfl) TB rfl hmT hu (hr.mono (by decide)) (by exact LamX.lamS_by (sc := defScope s_law_beside_right) (by decide +kernel)) rfl (fun _ _ _ _ _ => rfl)
              (fun A outer s H E f c' hr => pe_call G1 hr (by rfl) m1 k1 b1 .nil (passes_call (takes_of rfl rfl rfl rfl) fun _ _ _ _ z => z) (pa_cons (pv 0) (pa_cons (pv 4) pa_nil)))) (pa_cons (pe_tup (pa_cons pe_str (pa_cons (pv 4) pa_nil))) pa_nil))))) pss_dead pss_nil)))
      (pss_one (ps_ret pe_bl))), ?_⟩
    refine ⟨_, rfl, p, rfl, ⟨_, SqL.of td.hp⟩, ?_⟩
    refine for_it (walk_list (xs := rs.map V.str)) (fun _ σ' H' => ∃ (v3 v4 : Option V), σ' = [some (.ref h), some (.ref p), some (.ref q), v3, v4] ∧ ExtN H H' ∧ Tabs T H') ⟨_, _, rfl, ExtN.refl _, tT⟩ ?_ ?_ ?_
    · rintro i σ' H' _ ⟨v3, v4, rfl, e, _⟩
      exact SqL.of (td.extN e).hp
    · rintro i v σ' H' H'' _ ⟨v3, v4, rfl, e, tb⟩ ⟨rfl, hv⟩
      rw [List.getElem?_map] at hv
      obtain ⟨r, er, rfl⟩ := Option.map_eq_some_iff.mp hv
      have mr := List.mem_of_getElem? er
      have mr' := td.pm.mem_iff.mpr mr
      have td1 := td.extN e
      have np := near_perm td.gd td.gd' td.pm td.nr td.rn mr
      have ln : (nearOf ds r).length < 64 := by
        have := near_len (ds := ds) (r := r)
        have := td.gd'.dlen
        omega
      refine ⟨_, rfl, _, rfl, h, r, rs', ds, rfl, td1.hh, mr', fun H1 p1 ep1 gr1 np1 => ?_⟩
      refine ⟨.inl ⟨rfl, _, SqL.of ep1⟩, p1, _, .str "late", rfl, rfl, ep1, (by rw [List.length_map]; exact Nat.lt_trans ln (by decide)), ?_⟩
      have s2 : Same H'' (upd H1 p1 (.lst ((nearOf ds r).map V.str ++ [.str "late"]))) := fun b o h => by
        rw [upd_ne (ne_of_none h np1)]
        exact gr1.s _ _ h
      generalize upd H1 p1 (.lst ((nearOf ds r).map V.str ++ [.str "late"])) = H2 at s2 ⊢
      have td2 := td1.extN (ExtN.of s2)
      refine ⟨_, rfl, _, rfl, h, r, rs', ds, rfl, td2.hh, mr', fun H3 p3 ep3 gr3 np3 => ?_⟩
      have td3 := td2.extN gr3.extN
      refine ⟨_, rfl, _, rfl, q, r, ts, es, rfl, td3.hq, td3.ht, td.les, fun H4 p4 ys py sy ly gr4 np4 ep4 => ?_⟩
      have eys : ys = nearOf ds r := sorted_one (py.trans np.symm) sy (sortedS_pair.mpr (near_sorted td.asc r))
      subst eys
      refine ⟨.ref p3, .ref p4, rfl, (Tg.lstS (n := 0) (gr4.s _ _ ep3) ep4 (by omega)).mono (by decide), fun H5 s5 => ?_⟩
      refine ⟨_, rfl, iteF2 rfl ?_⟩
      have sA : Same H'' H5 := ((s2.trans gr3.s).trans gr4.s).trans s5
      exact ⟨_, _, rfl, e.trans (ExtN.of sA), tb.ext sA⟩
    rintro σ' H0 ⟨v3, v4, rfl, e0, tb0⟩
    have td0 := td.extN e0
    refine ⟨(by show 0 ≤ sizeLine; decide), fun y1 ny1 => ?_⟩
    have gH1 : Gr H0 (upd H0 y1 (.lst [])) := Gr.upd ny1
    have ey1 : upd H0 y1 (.lst []) y1 = some (.lst []) := upd_same
    generalize upd H0 y1 (.lst []) = H1 at gH1 ey1 ⊢
    refine ⟨(by show 1 ≤ sizeLine; decide), fun y2 ny2 => ?_⟩
    have gH2 : Gr H1 (upd H1 y2 (.tup [.str "a"])) := Gr.upd ny2
    have ey2 : upd H1 y2 (.tup [.str "a"]) y2 = some (.tup [.str "a"]) := upd_same
    generalize upd H1 y2 (.tup [.str "a"]) = H2 at gH2 ey2 ⊢
    refine fun y3 ny3 => ?_
    have gH3 : Gr H2 (upd H2 y3 (.dK [])) := Gr.upd ny3
    have ey3 : upd H2 y3 (.dK []) y3 = some (.dK []) := upd_same
    generalize upd H2 y3 (.dK []) = H3 at gH3 ey3 ⊢
    refine ⟨(by show 8 ≤ sizeLine; decide), fun DU nDU => ?_⟩
    have gA0 : Gr H3 (upd H3 DU (.tup [.str "never", .str "", .non, .int 5, .bl true, .ref y1, .ref y2, .ref y3])) := Gr.upd nDU
    have eDU : upd H3 DU (.tup [.str "never", .str "", .non, .int 5, .bl true, .ref y1, .ref y2, .ref y3]) DU = some (.tup [.str "never", .str "", .non, .int 5, .bl true, .ref y1, .ref y2, .ref y3]) := upd_same
    generalize upd H3 DU (.tup [.str "never", .str "", .non, .int 5, .bl true, .ref y1, .ref y2, .ref y3]) = A0 at gA0 eDU ⊢
    have hH3 : Gr H3 A0 := gA0
    have hH2 : Gr H2 A0 := gH3.trans hH3
    have hH1 : Gr H1 A0 := gH2.trans hH2
    have hH0 : Gr H0 A0 := gH1.trans hH1
    have tdA := td0.extN hH0.extN
    have tbA := tb0.ext hH0.s
    have ey1' := hH1.s _ _ ey1
    have ey2' := hH2.s _ _ ey2
    have ey3' := hH3.s _ _ ey3
    have nr1 : ∀ {z : Str}, z ∉ rs → NoRm K A0 rs' (.str z) := fun {z} n => .inl ⟨z, rfl, fun m => n (td.pm.mem_iff.mp m)⟩
    have items : ∀ v ∈ [V.str "never", .str "", .non, .int 5, .bl true, .ref y1, .ref y2, .ref y3], NoRm K A0 rs' v ∧ Tg A0 4 v v := fun v hv => by
      simp only [List.mem_cons, List.not_mem_nil, or_false] at hv
      rcases hv with rfl | rfl | rfl | rfl | rfl | rfl | rfl | rfl
      · exact ⟨nr1 fun m => (td.nok _ m).2 rfl, .sc (.str _)⟩
      · exact ⟨nr1 fun m => absurd (td.nok _ m).1 (by decide +kernel), .sc (.str _)⟩
      · exact ⟨.inr ⟨_, fun _ _ => .base .non, kit_ty (by decide +kernel)⟩, .sc .non⟩
      · exact ⟨.inr ⟨_, fun _ _ => .base (.int _), kit_ty (by decide +kernel)⟩, .sc (.int _)⟩
      · exact ⟨.inr ⟨_, fun _ _ => .base (.bl _), kit_ty (by decide +kernel)⟩, .sc (.bl _)⟩
      · exact ⟨.inr ⟨_, fun _ s => .base (.lst (s _ _ ey1')), kit_ty (by decide +kernel)⟩, .lst ey1' ey1' (by decide) rfl fun i x y h => by cases h⟩
      · exact ⟨.inr ⟨_, fun _ s => .base (.tup (s _ _ ey2')), kit_ty (by decide +kernel)⟩, .tup ey2' ey2' (by decide) rfl (Tg.one (.sc (.str _)))⟩
      · exact ⟨.inr ⟨_, fun _ s => .base (.dK (s _ _ ey3')), kit_ty (by decide +kernel)⟩, .dK ey3' ey3' (by decide) rfl fun i x y h => by cases h⟩
    refine ⟨DU, rfl, ⟨_, SqT.of eDU⟩, ?_⟩
    refine for_tup (xs := [V.str "never", .str "", .non, .int 5, .bl true, .ref y1, .ref y2, .ref y3]) (fun _ σ' H' => ∃ (v3 v4 : Option V), σ' = [some (.ref h), some (.ref p), some (.ref q), v3, v4] ∧ ExtN A0 H' ∧ Tabs T H') ⟨_, _, rfl, ExtN.refl _, tbA⟩ ?_ ?_ ?_
    · rintro j σ' H' _ ⟨v3, v4, rfl, e, _⟩
      exact seqT_extN (SqT.of eDU) e
    · rintro j v σ' H' hv ⟨v3, v4, rfl, e, tb⟩
      obtain ⟨nrm, tg⟩ := items v (List.mem_of_getElem? hv)
      refine met_beside (i := 0) (j := 4) rfl rfl tb (tdA.extN e).hh (nrm.extN e) fun C1 p1 e1 tC1 ep1 => ?_
      refine ⟨_, rfl, (by show 2 ≤ sizeLine; decide), fun T0 nT0 => ?_⟩
      have d1 : Gr C1 (upd C1 T0 (.tup [.str "room", v])) := Gr.upd nT0
      have tgv := tgs_ext (e.trans (e1.trans d1.extN)) tg
      refine ⟨.ref p1, .ref T0, rfl, .tup (d1.s _ _ ep1) upd_same (by show 2 < 100000; decide) rfl (Tg.two (.sc (.str _)) tgv), fun D2 s12 => ?_⟩
      refine ⟨_, rfl, iteF2 rfl ?_⟩
      have s1 := d1.s.trans s12
      exact ⟨_, _, rfl, (e.trans e1).trans (ExtN.of s1), tC1.ext s1⟩
    · rintro σ' H' ⟨v3, v4, rfl, e, tb⟩
      exact k H' (e0.trans (hH0.extN.trans e)) tb
end
end Lamp
set_option maxHeartbeats 1000000
namespace Lamp
open PySem L2
/-! ### a leaf more, a leaf less -/
theorem ext_conn {l : List Ed} {x r : Str} (ex : ∀ e ∈ l, e.1 ≠ x ∧ e.2 ≠ x) (rx : r ≠ x) {a c : Str} (h : Conn ((x, r) :: l) a c) (ax : a ≠ x) : (c ≠ x → Conn l a c) ∧ (c = x → Conn l a r) := by
  induction h with
  | refl => exact ⟨fun _ => .refl _, fun e => absurd e ax⟩
  | @fwd b c h m ih =>
    rcases List.mem_cons.mp m with e | m
    · obtain ⟨rfl, rfl⟩ := Prod.mk.inj e
      exact ⟨fun _ => ih.2 rfl, fun e => absurd e rx⟩
    · obtain ⟨h1, h2⟩ := ex _ m
      exact ⟨fun _ => .fwd (ih.1 h1) m, fun e => absurd e h2⟩
  | @bwd b c h m ih =>
    rcases List.mem_cons.mp m with e | m
    · obtain ⟨rfl, rfl⟩ := Prod.mk.inj e
      exact ⟨fun n => absurd rfl n, fun _ => ih.1 rx⟩
    · obtain ⟨h1, h2⟩ := ex _ m
      exact ⟨fun _ => .bwd (ih.1 h2) m, fun e => absurd e h1⟩
theorem conn_alone {l : List Ed} {x : Str} (ex : ∀ e ∈ l, e.1 ≠ x ∧ e.2 ≠ x) {a c : Str} (h : Conn l a c) : a = x → c = x := by
  induction h with
  | refl => exact id
  | fwd _ m ih => exact fun e => absurd (ih e) (ex _ m).1
  | bwd _ m ih => exact fun e => absurd (ih e) (ex _ m).2
theorem GoodH.leaf {rs : List Str} {es : List Ed} (g : GoodH rs es) {x r : Str} (nx : x ∉ rs) (mr : r ∈ rs) (l1 : rs.length < 59) (l2 : es.length < 59) : GoodH (rs ++ [x]) (es ++ [(x, r)]) := by
  have ex : ∀ e ∈ es, e.1 ≠ x ∧ e.2 ≠ x := fun e he => ⟨fun z => nx (z ▸ (g.ends e he).1), fun z => nx (z ▸ (g.ends e he).2.1)⟩
  have rx : r ≠ x := fun z => nx (z ▸ mr)
  have old : ∀ z ∈ es, z ∈ es ++ [(x, r)] := fun z hz => List.mem_append_left _ hz
  have new : (x, r) ∈ es ++ [(x, r)] := List.mem_append_right _ (List.mem_singleton.mpr rfl)
  refine ⟨List.nodup_append.mpr ⟨g.nodup, List.nodup_cons.mpr ⟨by simp, List.nodup_nil⟩, fun a ha b hb e => ?_⟩, by simp, by rw [List.length_append]; show rs.length + 1 < 60; omega, by rw [List.length_append]; show es.length + 1 < 60; omega, fun d hd => ?_, fun a ha b hb => ?_, fun e l p c => ?_⟩
  · rw [List.mem_singleton.mp hb] at e
    exact nx (e ▸ ha)
  · rcases List.mem_append.mp hd with hd | hd
    · obtain ⟨h1, h2, h3⟩ := g.ends d hd
      exact ⟨List.mem_append_left _ h1, List.mem_append_left _ h2, h3⟩
    · rw [List.mem_singleton.mp hd]
      exact ⟨List.mem_append_right _ (List.mem_singleton.mpr rfl), List.mem_append_left _ mr, rx.symm⟩
  · have toR : ∀ a ∈ rs ++ [x], Conn (es ++ [(x, r)]) a r := fun a ha => by
      rcases List.mem_append.mp ha with ha | ha
      · exact (g.join a ha r mr).mono old
      · rw [List.mem_singleton.mp ha]
        exact .fwd (.refl _) new
    exact (toR a ha).trans (toR b hb).symm
  · have p1 : ((x, r) :: es).Perm (e :: l) := (List.perm_append_comm (l₁ := [(x, r)]) (l₂ := es)).trans p
    by_cases c1 : e = (x, r)
    · subst c1
      have p2 : es.Perm l := p1.cons_inv
      have c2 : Conn es x r := c.mono fun z hz => p2.mem_iff.mpr hz
      exact rx (conn_alone ex c2 rfl)
    · have me : e ∈ es := (List.mem_cons.mp (p1.mem_iff.mpr List.mem_cons_self)).resolve_left c1
      have ml : (x, r) ∈ l := (List.mem_cons.mp (p1.mem_iff.mp List.mem_cons_self)).resolve_left fun z => c1 z.symm
      have p3 : l.Perm ((x, r) :: l.erase (x, r)) := List.perm_cons_erase ml
      have p4 : es.Perm (e :: l.erase (x, r)) := (p1.trans ((List.Perm.cons _ p3).trans (List.Perm.swap _ _ _))).cons_inv
      have en := g.ends e me
      have c2 : Conn ((x, r) :: l.erase (x, r)) e.1 e.2 := c.mono fun z hz => p3.mem_iff.mp hz
      have ex' : ∀ z ∈ l.erase (x, r), z.1 ≠ x ∧ z.2 ≠ x := fun z hz => ex z (p4.mem_iff.mpr (List.mem_cons_of_mem _ hz))
      exact g.noring e _ p4 ((ext_conn ex' rx c2 (fun z => nx (z ▸ en.1))).1 fun z => nx (z ▸ en.2.1))
/-- the doors without a room -/
def keptE (lf : Str) (es : List Ed) : List Ed := es.filter fun e => !(decide (e.1 = lf) || decide (e.2 = lf))
theorem out_len (lf : Str) : ∀ es : List Ed, (∀ e ∈ es, e.1 ≠ e.2) → (es.filter fun e => decide (e.1 = lf) || decide (e.2 = lf)).length = (outs lf es ++ ins_ lf es).length
  | [], _ => rfl
  | e :: es, h => by
    have ih := out_len lf es fun x hx => h x (List.mem_cons_of_mem _ hx)
    have ne := h e List.mem_cons_self
    unfold outs ins_ at ih ⊢
    rw [List.length_append] at ih ⊢
    rw [List.filter_cons, List.filterMap_cons, List.filterMap_cons]
    by_cases c1 : e.1 = lf
    · have c2 : e.2 ≠ lf := fun z => ne (c1.trans z.symm)
      rw [if_pos c1, if_neg c2, decide_eq_true c1]
      simp only [Bool.true_or, if_true, List.length_cons]
      omega
    · rw [if_neg c1, decide_eq_false c1]
      by_cases c2 : e.2 = lf
      · rw [if_pos c2, decide_eq_true c2]
        simp only [Bool.false_or, if_true, List.length_cons]
        omega
      · rw [if_neg c2, decide_eq_false c2]
        simp only [Bool.false_or, Bool.false_eq_true, if_false]
        exact ih
theorem GoodH.unleaf {rs : List Str} {es : List Ed} (g : GoodH rs es) {lf far : Str} (ml : lf ∈ rs) (deg : (outs lf es ++ ins_ lf es).length = 1) (mf : far ∈ rs) (nf : far ≠ lf) : GoodH rs (keptE lf es ++ [(lf, far)]) := by
  have ne : ∀ e ∈ es, e.1 ≠ e.2 := fun e he => (g.ends e he).2.2
  have len := out_len lf es ne
  rw [deg] at len
  obtain ⟨e0, ee⟩ := List.length_eq_one_iff.mp len
  have pk : es.Perm (e0 :: keptE lf es) := by
    have h := List.filter_append_perm (fun e : Ed => decide (e.1 = lf) || decide (e.2 = lf)) es
    rw [ee] at h
    exact h.symm
  have k1 : ∀ e ∈ keptE lf es, e ∈ es ∧ e.1 ≠ lf ∧ e.2 ≠ lf := fun e he => by
    obtain ⟨h1, h2⟩ := List.mem_filter.mp he
    simp only [Bool.not_eq_true', Bool.or_eq_false_iff, decide_eq_false_iff_not] at h2
    exact ⟨h1, h2⟩
  have m0 : e0 ∈ es := pk.mem_iff.mpr List.mem_cons_self
  have h0 : e0.1 = lf ∨ e0.2 = lf := by
    have : e0 ∈ es.filter fun e => decide (e.1 = lf) || decide (e.2 = lf) := by rw [ee]; exact List.mem_singleton.mpr rfl
    have h := (List.mem_filter.mp this).2
    simpa using h
  have n0 := ne e0 m0
  have mem2 : ∀ a, a ∈ rs.erase lf ↔ a ≠ lf ∧ a ∈ rs := fun a => g.nodup.mem_erase_iff
  have tail : ∀ {a b : Str}, a ≠ lf → b ≠ lf → Conn es a b → Conn (keptE lf es) a b := fun {a b} ha hb c => by
    have c1 : Conn (e0 :: keptE lf es) a b := c.mono fun z hz => pk.mem_iff.mp hz
    rcases h0 with h0 | h0
    · have e1 : e0 = (lf, e0.2) := by rw [← h0]
      rw [e1] at c1
      exact (ext_conn (fun e he => (k1 e he).2) (fun z => n0 (h0.trans z.symm)) c1 ha).1 hb
    · have c2 : Conn ((lf, e0.1) :: keptE lf es) a b := nrm_conn (fun d hd => by
        rcases List.mem_cons.mp hd with rfl | hd
        · exact ⟨_, List.mem_cons_self, .inr (by rw [← h0])⟩
        · exact ⟨d, List.mem_cons_of_mem _ hd, .inl rfl⟩) c1
      exact (ext_conn (fun e he => (k1 e he).2) (fun z => n0 (z.trans h0.symm)) c2 ha).1 hb
  have gk : GoodH (rs.erase lf) (keptE lf es) := by
    refine ⟨g.nodup.erase _, fun z => ?_, Nat.lt_of_le_of_lt List.length_erase_le g.len, Nat.lt_of_le_of_lt (List.length_filter_le _ _) g.dlen, fun d hd => ?_, fun a ha b hb => ?_, fun e l p c => ?_⟩
    · have := (mem2 far).mpr ⟨nf, mf⟩
      rw [z] at this
      cases this
    · obtain ⟨h1, h2, h3⟩ := k1 d hd
      obtain ⟨i1, i2, i3⟩ := g.ends d h1
      exact ⟨(mem2 _).mpr ⟨h2, i1⟩, (mem2 _).mpr ⟨h3, i2⟩, i3⟩
    · obtain ⟨a1, a2⟩ := (mem2 a).mp ha
      obtain ⟨b1, b2⟩ := (mem2 b).mp hb
      exact tail a1 b1 (g.join a a2 b b2)
    · exact g.noring e (e0 :: l) (pk.trans ((List.Perm.cons _ p).trans (List.Perm.swap _ _ _))) (c.mono fun z hz => List.mem_cons_of_mem _ hz)
  have le : (rs.erase lf).length < 59 := by
    rw [List.length_erase_of_mem ml]
    have := g.len
    omega
  have lk : (keptE lf es).length < 59 := by
    have h := pk.length_eq
    rw [List.length_cons] at h
    have := g.dlen
    omega
  have gl := gk.leaf (x := lf) (r := far) (fun z => ((mem2 lf).mp z).1 rfl) ((mem2 far).mpr ⟨nf, mf⟩) le lk
  exact gl.turn ((List.perm_cons_erase ml).trans (List.perm_append_comm (l₁ := [lf]) (l₂ := rs.erase lf))) (nrm_refl _) (.refl _)
/-- a house of two rooms or more has a leaf -/
theorem leaf_there {rs rs' : List Str} {es ds : List Ed} (g : GoodH rs es) (g' : GoodH rs' ds) (pm : rs'.Perm rs) (nr : ∀ e ∈ es, ∃ d ∈ ds, Nrm d e) (rn : ∀ d ∈ ds, ∃ e ∈ es, Nrm e d) (lee : es.length + 1 = rs.length) (l2 : 2 ≤ rs.length) : ∃ lf ∈ rs, (outs lf es ++ ins_ lf es).length = 1 := by
  have pp := (prs_perm g g' pm nr rn).length_eq
  have e1 : (es ++ es.map fun e => (e.2, e.1)).length = 2 * es.length := by
    rw [List.length_append, List.length_map]
    omega
  rw [e1] at pp
  have e2 : ∀ l : List Str, (prs l ds).length = (l.map fun r => (nearOf ds r).length).sum := fun l => by
    induction l with
    | nil => rfl
    | cons x l ih =>
      have one : prs (x :: l) ds = ((nearOf ds x).map fun o => (x, o)) ++ prs l ds := rfl
      rw [one, List.length_append, List.length_map, ih]
      rfl
  rw [e2] at pp
  have pos : ∀ r ∈ rs', 1 ≤ (nearOf ds r).length := fun r hr => by
    obtain ⟨o, mo, no⟩ : ∃ o ∈ rs', o ≠ r := by
      have l2' : 2 ≤ rs'.length := by rw [pm.length_eq]; exact l2
      match h : rs', l2' with
      | a :: b :: t, _ =>
        have nd := g'.nodup
        by_cases c : a = r
        · refine ⟨b, by simp, fun z => ?_⟩
          have := (List.nodup_cons.mp nd).1
          exact this (by rw [c, ← z]; exact List.mem_cons_self)
        · exact ⟨a, by simp, c⟩
    have c := g'.join r hr o mo
    have : ∀ {a b : Str}, Conn ds a b → a = r → b ≠ r → ∃ y, y ∈ nearOf ds r := fun {a b} c => by
      induction c with
      | refl => exact fun e n => absurd e n
      | @fwd b c h m ih =>
        intro e n
        by_cases q : b = r
        · exact ⟨c, near_of g'.ends (.inl (q ▸ m))⟩
        · exact ih e q
      | @bwd b c h m ih =>
        intro e n
        by_cases q : b = r
        · exact ⟨c, near_of g'.ends (.inr (q ▸ m))⟩
        · exact ih e q
    obtain ⟨y, my⟩ := this c rfl no
    exact List.length_pos_of_mem my
  have all : ∀ l : List Str, (∀ r ∈ l, 2 ≤ (nearOf ds r).length) → 2 * l.length ≤ (l.map fun r => (nearOf ds r).length).sum := fun l => by
    induction l with
    | nil => exact fun _ => Nat.zero_le _
    | cons x l ih =>
      intro h
      have h1 := h x List.mem_cons_self
      have h2 := ih fun r hr => h r (List.mem_cons_of_mem _ hr)
      show 2 * (l.length + 1) ≤ (nearOf ds x).length + (l.map fun r => (nearOf ds r).length).sum
      omega
  obtain ⟨r, hr, h2⟩ : ∃ r ∈ rs', ¬ 2 ≤ (nearOf ds r).length := by
    apply Classical.byContradiction
    intro n
    have h := all rs' fun r hr => Classical.byContradiction fun z => n ⟨r, hr, z⟩
    rw [pp, pm.length_eq] at h
    omega
  have h1 := pos r hr
  have mr := pm.mem_iff.mp hr
  refine ⟨r, mr, ?_⟩
  rw [← (near_perm g g' pm nr rn mr).length_eq]
  omega
end Lamp
set_option maxHeartbeats 8000000
namespace Lamp
open PySem PySem.Spec PyProof.Rows L2
/-! ### part_with, lit_house, ledger_of -/
theorem apart_conn {lit : List Str} {ds : List Ed} (h : apart lit ds = []) : ∀ a ∈ lit, ∀ b ∈ lit, Conn (kept lit ds) a b := by
  cases lit with
  | nil => exact fun a ha => by cases ha
  | cons m ls =>
    have all : ∀ x ∈ m :: ls, Conn (kept (m :: ls) ds) m x := fun x hx => by
      by_cases c : Conn (kept (m :: ls) ds) m x
      · exact c
      · have mx : x ∈ apart (m :: ls) ds := by
          unfold apart
          simp only [List.mem_filter]
          exact ⟨hx, by simp [c]⟩
        rw [h] at mx
        cases mx
    exact fun a ha b hb => (all a ha).symm.trans (all b hb)
theorem kept_noring {lit : List Str} {ds : List Ed} (nr : ∀ (e : Ed) (l : List Ed), ds.Perm (e :: l) → ¬ Conn l e.1 e.2) : ∀ (e : Ed) (l : List Ed), (kept lit ds).Perm (e :: l) → ¬ Conn l e.1 e.2 := fun e l p c => by
  have q : ds.Perm (kept lit ds ++ ds.filter fun d => !(decide (d.1 ∈ lit) && decide (d.2 ∈ lit))) := (List.filter_append_perm _ ds).symm
  exact nr e _ (q.trans (p.append_right _)) (c.mono fun d hd => List.mem_append_left _ hd)
theorem good_kept {rs lit : List Str} {ds : List Ed} (g : GoodH rs ds) (nd : lit.Nodup) (ne : lit ≠ []) (sub : ∀ r ∈ lit, r ∈ rs) (ap : apart lit ds = []) : GoodH lit (kept lit ds) :=
  ⟨nd, ne, Nat.lt_of_le_of_lt (nodup_le nd sub) g.len, Nat.lt_of_le_of_lt (List.length_filter_le _ _) g.dlen, fun d hd => by
    obtain ⟨m1, m2, m3⟩ := kept_mem.mp hd
    exact ⟨m2, m3, (g.ends d m1).2.2⟩, apart_conn ap, kept_noring g.noring⟩
/-- a house made of these rooms and doors -/
structure Made (H : Hp) (C x : Addr) (rs : List Str) (es : List Ed) : Prop where
  ex : ∃ rs' ds', rs'.Perm rs ∧ sortedS rs' = true ∧ GoodH rs' ds' ∧ Asc ds' ∧ (∀ e ∈ es, ∃ d ∈ ds', Nrm d e) ∧ (∀ d ∈ ds', ∃ e ∈ es, Nrm e d) ∧ HouseAt H C x rs' ds'
theorem Made.up {H H' : Hp} {C x : Addr} {rs : List Str} {es : List Ed} (m : Made H C x rs es) (s : Same H H') : Made H' C x rs es := by
  obtain ⟨rs', ds', h1, h2, h3, h4, h5, h6, h7⟩ := m.ex
  exact ⟨rs', ds', h1, h2, h3, h4, h5, h6, h7.same s⟩
section
variable {P : Program} {w : World} {K : PySem.W.Frag} {mg : Str → Option Value} {base : Heap} {C CL CN : Addr}
def DoorsOf (P : Program) (w : World) (K : PySem.W.Frag) (mg : Str → Option Value) (base : Heap) (C : Addr) : Prop := ∃ (f : Addr) (fd : FuncData), Meth K C "doors" f ∧ FnOk P w K mg base CX0 1 f fd ["self"] (spDoorsH C) ∧ L2.Binds K fd ["self"] []
/-- House(..) at its name -/
structure MakeH (P : Program) (w : World) (K : PySem.W.Frag) (mg : Str → Option Value) (base : Heap) (C : Addr) : Prop where
  ex : ∃ (fI : Addr) (dI : FuncData), Mk K C fI ∧ FnOk P w K mg base CX0 4 fI dI ["self", "rooms", "doors"] (spInit C) ∧ L2.Binds K dI ["self", "rooms", "doors"] []
  gC : mg "House" = some (.ref C)
def spPartW (C : Addr) : Sp := fun vs H Q _ => ∃ (h a : Addr) (rs lit : List Str) (ds : List Ed), vs = [.ref h, .ref a] ∧ HouseAt H C h rs ds ∧ H a = some (.lst (lit.map V.str)) ∧ GoodH lit (kept lit ds) ∧ (∀ r ∈ lit, nameOk r = true) ∧ ds.length < 60 ∧
  ∀ H' x, Made H' C x lit (kept lit ds) → Gr H H' → H x = none → Q (.ref x) H'
abbrev NPw : List Str := ["house", "some", "doors", "one", "other"]
/-! ### lit_house -/
def spLitH (K : PySem.W.Frag) (C CN : Addr) : Sp := fun vs H Q E => ∃ (h d : Addr) (rs : List Str) (ds : List Ed) (fs : List Str) (nv : Str → V), vs = [.ref h, .ref d] ∧ HouseAt H C h rs ds ∧ GoodH rs ds ∧ sortedS rs = true ∧ (∀ r ∈ rs, nameOk r = true) ∧ LedAt K H rs d fs nv ∧
  ((apart (litF rs nv) ds = [] ∧ ∀ H' x, Made H' C x (litF rs nv) (kept (litF rs nv) ds) → Gr H H' → H x = none → Q (.ref x) H') ∨
    ∃ r, (apart (litF rs nv) ds).head? = some r ∧ ∀ H' dd, Gr H H' → H dd = none → H' dd = some (.xd [(("room" : Str), .str r)]) → E (.ref CN) (some dd) H')
abbrev NLh : List Str := ["house", "ledger", "lit", "parted"]
end
end Lamp
set_option maxHeartbeats 1000000
namespace Lamp
open PySem PySem.Spec PyProof.Rows L2
open C8 (InsC call_isC)
/-! ### House.__eq__ of two houses of the same rooms and doors; two houses made of the same -/
def EqH (C a b : Addr) (H : Hp) : Prop := ∃ rs ds, HouseAt H C a rs ds ∧ HouseAt H C b rs ds ∧ (∀ r ∈ rs, PyData.strOk r = true) ∧ ∀ d ∈ ds, d.1 ∈ rs ∧ d.2 ∈ rs
theorem EqH.ext {C a b : Addr} {H H' : Hp} (e : L2.Ext H H') (h : EqH C a b H) : EqH C a b H' := by
  obtain ⟨rs, ds, h1, h2, h3⟩ := h
  exact ⟨rs, ds, h1.same e, h2.same e, h3⟩
theorem shaped_self {d : PyData} (h : SeqAt.shaped d = true) : PyData.eqv d d = true := by
  have h' : (d.canLay0 && decide (d.depth ≤ 64)) = true := h
  rw [Bool.and_eq_true] at h'
  exact SeqAt.eqv_refl d h'.1
/-- a house is told by what it was made of -/
theorem Made.one {H : Hp} {C x y : Addr} {rs rt : List Str} {es fs : List Ed} (pm0 : rs.Perm rt) (n1 : ∀ e ∈ es, ∃ f ∈ fs, Nrm e f) (n2 : ∀ f ∈ fs, ∃ e ∈ es, Nrm e f) (ok : ∀ r ∈ rs, PyData.strOk r = true) (m : Made H C x rs es) (m' : Made H C y rt fs) : EqH C x y H := by
  obtain ⟨r1, d1, a1, a2, a3, a4, a5, a6, a7⟩ := m.ex
  obtain ⟨r2, d2, b1, b2, b3, b4, b5, b6, b7⟩ := m'.ex
  have er : r1 = r2 := sorted_one (a1.trans (pm0.trans b1.symm)) a2 b2
  have nn : ∀ {a b : Ed}, Nrm a b → Nrm b a := fun {a b} h => by
    rcases h with rfl | rfl
    · exact .inl rfl
    · exact .inr rfl
  have n3 : ∀ {a b c : Ed}, Nrm a b → Nrm b c → Nrm a c := fun {a b c} h g => by
    rcases h with rfl | rfl
    · exact g
    · rcases g with rfl | rfl
      · exact .inr rfl
      · exact .inl rfl
  have lss : ∀ {a b : Ed}, ltS a.1 a.2 = true → ltS b.1 b.2 = true → Nrm a b → a = b := fun {a b} h g n => by
    rcases n with rfl | rfl
    · rfl
    · have := ltS_asym h
      rw [show ltS a.2 a.1 = true from g] at this
      cases this
  have mem : ∀ d, d ∈ d1 ↔ d ∈ d2 := fun d => by
    constructor
    · intro hd
      obtain ⟨e, he, ne⟩ := a6 d hd
      obtain ⟨f, hf, nf⟩ := n1 e he
      obtain ⟨c, hc, nc⟩ := b5 f hf
      have z : Nrm d c := n3 (n3 (nn ne) nf) (nn nc)
      rw [lss (a4.less d hd) (b4.less c hc) z]
      exact hc
    · intro hd
      obtain ⟨f, hf, nf⟩ := b6 d hd
      obtain ⟨e, he, ne⟩ := n2 f hf
      obtain ⟨c, hc, nc⟩ := a5 e he
      have z : Nrm d c := n3 (n3 (nn nf) (nn ne)) (nn nc)
      rw [lss (b4.less d hd) (a4.less c hc) z]
      exact hc
  have ed : d1 = d2 := lex_one ((List.perm_ext_iff_of_nodup (doors_nodup a3).1 (doors_nodup b3).1).mpr mem) a4.sort b4.sort
  subst er
  subst ed
  exact ⟨r1, d1, a7, b7, fun r hr => ok r (a1.mem_iff.mp hr), fun d hd => ⟨(a3.ends d hd).1, (a3.ends d hd).2.1⟩⟩
section
variable {P : Program} {w : World} {K : PySem.W.Frag} {mg : Str → Option Value} {base : Heap} {C : Addr}
theorem scHeq : FnScope ["self", "other"] ["self", "other"] (defScope m_House_eq) := ⟨rfl, rfl, rfl, by decide +kernel, rfl, by decide +kernel, by decide +kernel⟩
theorem ok_eqH {f : Addr} {fd : FuncData} (F : Fun K "__eq__" "House.__eq__" m_House_eq f fd) (isi : mg "isinstance" = none) (gC : mg "House" = some (.ref C)) (c : ClsH K C) (I : InsC K C) : FnOk P w K mg base CX0 1 f fd ["self", "other"] (spEq (EqH C)) := by
  refine F.ok scHeq (fun vs H Q E h => ?_) (fun cdv A outer s H vs Q E hr h => ?_)
  · obtain ⟨a, b, rfl, _⟩ := h
    rfl
  · obtain ⟨a, b, rfl, ⟨rs, ds, ha, hb, sok, ends⟩, k⟩ := h
    have hu : (A.deeper (envOfC (Str.ofString "House.__eq__") (defScope m_House_eq) s.heap.objs.size f cdv)).units + 64 < cLine := by
      have := hr.un
      omega
    obtain ⟨dx, ra, da, na, ts, h1, h2, h3, h4, _⟩ := ha.at_
    obtain ⟨dy, sa, ea, oa, us, g1, g2, g3, g4, _⟩ := hb.at_
    refine ⟨_, pss_one (ps_ret (pe_and (pe_callB (call_isC I) (by rfl) isi PyProof.Rows.Boot.isinstance (pa_cons (pv 1) (pa_cons (pe_glob (v := .ref C) (by rfl) gC rfl) pa_nil)))
      (pe_and (pe_cmpR (op_eqD hu) (pe_fld (f := "_rooms") (pv 0) (by rfl)) (pe_fld (f := "_rooms") (pv 1) (by rfl)) (nomark _))
        (pe_one (pe_cmpR (op_eqD hu) (pe_fld (f := "_doors") (pv 0) (by rfl)) (pe_fld (f := "_doors") (pv 1) (by rfl)) (nomark _)))))), ?_⟩
    have sR := shaped_strs sok
    have sD := shaped_pds (es := ds) fun e he => ⟨sok _ (ends e he).1, sok _ (ends e he).2⟩
    refine ⟨_, rfl, b, dy, _, rfl, g1, ?_⟩
    refine ⟨true, rfl, ?_⟩
    refine iteT2 rfl ⟨_, rfl, a, C, dx, _, _, rfl, h1, c.cls, c.nR, by rfl, _, rfl, b, C, dy, _, _, rfl, g1, c.cls, c.nR, by rfl, ?_⟩
    refine ⟨_, _, .lst (SqL.of h2) (dpAll_strs rs), .lst (SqL.of g2) (dpAll_strs rs), sR, sR, ?_⟩
    rw [shaped_self sR]
    refine ⟨true, rfl, iteT2 rfl ⟨_, rfl, a, C, dx, _, _, rfl, h1, c.cls, c.nD, by rfl, _, rfl, b, C, dy, _, _, rfl, g1, c.cls, c.nD, by rfl, ?_⟩⟩
    refine ⟨_, _, .lst (SqL.of h3) (dpAll_pd h4), .lst (SqL.of g3) (dpAll_pd g4), sD, sD, ?_⟩
    rw [shaped_self sD]
    exact k _ fun _ _ e => e
end
end Lamp
set_option maxHeartbeats 1000000
namespace Lamp
open PySem PySem.Spec PyProof.Rows L2
/-! ### == and != of an own object and anything: the own __eq__, and object.__ne__ that asks it -/
theorem ifBound_B {M : Model} {A : Around} {E : Value → Shared → Prop} {s : Shared} {K : PySem.W.Frag} {x C : Addr} {ox : Obj} {od : Option Obj} {name : Str} {id : String} {args : List Value} {Q : Option Value → Shared → Prop} (X : K.In s.heap) (I : PySem.W.InstAt s.heap x ox C od)
    (hs : PySem.W.findIn K (.ref C) name = some (some (.builtin id))) (hb : ∀ self, bindSpecial (.builtin id) self = pure (.builtin id, [self])) (h : wpAny M A (call (.builtin id) (.ref x :: args)) (fun v => Q (some v)) E s) :
    wpAny M A (callSpecialIfBound? (.ref x) name args) Q E s := by
  simp only [callSpecialIfBound?, bindSpecialIfBound?]
  refine wpAny_holding (wpAny_bind (wpAny_bind (wpAny_bind (I.type.here ((PySem.W.looks_findIn X hs).here ?_)))))
  refine wpAny_bind (wpAny_askSetting (wpAny_ite ?_))
  have fin : wpAny M A (call (.builtin id) ([.ref x] ++ args) >>= fun v => pure (some v)) Q E s := wpAny_bind (wpAny_mono h (fun v s' h' => wpAny_pure h') fun _ _ h' => h')
  rw [hb]
  split
  · exact wpAny_bind (wpAny_pure (wpAny_pure (by exact fin)))
  · exact wpAny_tryCatch (wpAny_bind (wpAny_pure (wpAny_pure (by exact fin))))
section
variable {prog : Program} {w : World} {A : Around} {E : Value → Shared → Prop} {s : Shared} {K : PySem.W.Frag} {x C L f : Addr} {h₀ : Heap} {m : Str → Option Value} {ox : Obj} {od : Option Obj} {b tb : Value}
theorem ne_call {Q : Value → Shared → Prop} (hu : A.units + 1 < cLine) (X : K.In s.heap) (I : PySem.W.InstAt s.heap x ox C od) (ho : PySem.W.mroIn K C (.type "object") = some true)
    (he : PySem.W.findIn K (.ref C) "__eq__" = some (some (.ref f))) (hf : PySem.W.isFn K (.ref f) = true)
    (h : wpAny (model prog w) A.in1 (call (.ref f) [.ref x, b]) (fun v s' => ∃ c, v = .bool c ∧ Q (.bool (!c)) s') E s) :
    wpAny (model prog w) A (call (.builtin "object.__ne__") [.ref x, b]) Q E s := by
  have sub : PySem.W.Looks (model prog w) s.heap (isInstance (.ref x) (.type "object")) true := I.type.andThen (PySem.W.looks_mroIn X ho)
  refine wpAny_call (codeAny_call_builtin PySem.F.cmp_object.ne.plain PySem.F.cmpEntry_ne (@PySem.W.check_slot (model prog w) _ _ s "object.__ne__" "object" "__ne__" (.ref x) [b] [] _ PySem.F.cmpKind_ne PySem.F.cmpSplit_ne sub (PySem.F.cmpArgs_ne _ _) ?_))
  unfold Builtin.«object.__ne__»
  repeat (first
    | with_reducible refine wpAny_cRoomFor hu ?_
    | (refine wpAny_bind (m := callSpecialIfBound? (.ref x) (Str.ofString "__eq__") [b])
        (PySem.W.ifBound_K X I he hf (wpAny_mono h (fun r s' hr => by
          obtain ⟨c, rfl, hq⟩ := hr
          repeat (first | exact hq | exact wpAny_pure hq | exact wpAny_truthy_bool hq | (refine wpAny_bind (m := truthy (.bool _)) (wpAny_truthy_bool ?_)) | wp_step)) fun _ _ e => e)))
    | wp_step)
theorem ne_K {Q : Value → Shared → Prop} (hu : A.units + 1 < cLine) (F : Fr h₀ L s.heap m) (X₀ : K.In h₀) (I : PySem.W.InstAt s.heap x ox C od) (hb : PySem.W.Looks (model prog w) s.heap (typeOf b) tb) (hn : PySem.W.notFirst K C tb = true)
    (hs : PySem.W.findIn K (.ref C) "__ne__" = some (some (.builtin "object.__ne__"))) (ho : PySem.W.mroIn K C (.type "object") = some true) (he : PySem.W.findIn K (.ref C) "__eq__" = some (some (.ref f))) (hf : PySem.W.isFn K (.ref f) = true)
    (h : wpAny (model prog w) A.in1 (call (.ref f) [.ref x, b]) (fun v s' => ∃ c, v = .bool c ∧ Q (.bool (!c)) s') E s) : wpAny (model prog w) A (richCompare .NotEq (.ref x) b) Q E s := by
  have X := X₀.keeps F.keep
  have one : wpAny (model prog w) A (tryCompare (.ref x) "__ne__" b) (fun r s' => ∃ v, r = some v ∧ Q v s') E s := by
    unfold tryCompare
    refine wpAny_bind (ifBound_B X I hs PySem.F.cmp_object.ne.bind (ne_call hu X I ho he hf (wpAny_mono h (fun v s' hv => ?_) fun _ _ e => e)))
    obtain ⟨c, rfl, hq⟩ := hv
    exact ⟨c, rfl, wpAny_pure ⟨_, rfl, hq⟩⟩
  unfold richCompare
  simp only [oneThing_ref]
  refine wpAny_holding (wpAny_bind (wpAny_cRoomFor (Nat.lt_of_succ_lt hu) ?_))
  refine wpAny_bind (I.type.here (wpAny_bind (hb.here ?_)))
  split
  · rename_i q
    have e : PySem.W.subIn K tb (.ref C) = some false := by
      rcases Bool.or_eq_true_iff.mp hn with e | e
      · rw [beq_iff_eq.mp e] at q; simp at q
      · exact beq_iff_eq.mp e
    refine wpAny_bind ((PySem.W.looks_subIn X e).here ?_)
    simp only [Bool.false_eq_true, if_false]
    refine wpAny_bind (wpAny_mono one (fun r s' z => ?_) fun _ _ e => e)
    obtain ⟨v, rfl, hq⟩ := z
    exact wpAny_pure hq
  · refine wpAny_bind (wpAny_pure ?_)
    simp only [Bool.false_eq_true, if_false]
    refine wpAny_bind (wpAny_mono one (fun r s' z => ?_) fun _ _ e => e)
    obtain ⟨v, rfl, hq⟩ := z
    exact wpAny_pure hq
end
/-- what the own == promises of anything -/
def spEqB (R : Addr → V → Hp → Bool → Prop) : Sp := fun vs H Q _ => ∃ a y b, vs = [.ref a, y] ∧ R a y H b ∧ ∀ H', L2.Ext H H' → Q (.bl b) H'
def rEqB (K : PySem.W.Frag) (C : Addr) (R : Addr → V → Hp → Bool → Prop) : R2 := fun x y H Q => ∃ a dx fs t b, x = .ref a ∧ H a = some (.ins C dx fs) ∧ TyX K H y t ∧ PySem.W.notFirst K C t = true ∧ R a y H b ∧ ∀ H', L2.Ext H H' → Q (.bl b) H'
def rNeB (K : PySem.W.Frag) (C : Addr) (R : Addr → V → Hp → Bool → Prop) : R2 := fun x y H Q => ∃ a dx fs t b, x = .ref a ∧ H a = some (.ins C dx fs) ∧ TyX K H y t ∧ PySem.W.notFirst K C t = true ∧ R a y H b ∧ ∀ H', L2.Ext H H' → Q (.bl (!b)) H'
section
variable {X : Cx} {n : Nat} {CX : CXT} {C f : Addr} {fd : FuncData} {ps : List Str} {R : Addr → V → Hp → Bool → Prop} {E : XK}
theorem eqB_run (F : FnOk X.prog X.w X.K X.mg X.base CX n f fd ps (spEqB R)) (hb : L2.Binds X.K fd ps []) (hx : Passes CX X E) {A : Around} (hr : Room n A) (fr : A.frames = X.A.frames) {pins : List (Addr × Obj)} {s : Shared} {σ : L2.St} {H : Hp} {a : Addr} {y : V} {v : Value} {c : Bool}
    (I : Inv X pins σ H s) (ry : RelV y v) (d : R a y H c) : wpAny (model X.prog X.w) A (call (.ref f) [.ref a, v]) (fun v s' => v = .bool c ∧ ∃ H', Inv X pins σ H' s' ∧ L2.Ext H H') X.xe s := by
  have hsp : spEqB R [.ref a, y] H (fun v H' => v = .bl c ∧ L2.Ext H H') E := ⟨a, y, c, rfl, d, fun H' e => ⟨rfl, e⟩⟩
  have e0 : Env0 X.prog X.w X.K X.mg X.base A X.stack s H := by
    have e := I.env0
    exact ⟨by rw [fr]; exact e.frames, e.mod, e.bs, e.bsz, e.funs, e.frf, e.hok, e.bare⟩
  have hl := F.len _ _ _ _ hsp
  have r2 : Vals [V.ref a, y] [Value.ref a, v] := .cons rfl (.cons ry .nil)
  refine wpAny_call (codeAny_mono (F.run A X.stack s H ⟨[.ref a, v], []⟩ [.ref a, v] [.ref a, y] _ E hr e0 (by
    have := hb s [.ref a, v] I.kIn (by simpa using hl)
    simpa using this) r2 hsp) fun r s' hq => ?_)
  cases r with
  | error e => exact hx pins σ H s e s' I hq
  | ok fl =>
    cases fl with
    | ret w =>
      obtain ⟨z, H', I', rz, ez, ex⟩ := I.after hq
      subst ez
      cases rz
      exact ⟨rfl, H', I', ex⟩
    | next => exact False.elim hq
    | brk => exact False.elim hq
    | cont => exact False.elim hq
theorem op_eqB (F : FnOk X.prog X.w X.K X.mg X.base CX n f fd ps (spEqB R)) (hs : PySem.W.findIn X.K (.ref C) "__eq__" = some (some (.ref f))) (hf : PySem.W.isFn X.K (.ref f) = true) (hb : L2.Binds X.K fd ps []) (hx : Passes CX X E) (hr : Room n X.A) :
    OpR X (compareOp .Eq) (rEqB X.K C R) := by
  intro pins s σ H x y v u Q I rx ry hq
  obtain ⟨a, dx, fs, t, c, rfl, ha, ty, nf, d, q⟩ := hq
  cases rx
  show wpAny (model X.prog X.w) X.A (richCompare .Eq (.ref a) u) (EP X pins σ Q) X.xe s
  obtain ⟨mA, J, _⟩ := ins_get I.hok ha
  obtain ⟨od, J, _⟩ := J.look
  obtain ⟨m, hF⟩ := I.fr
  obtain ⟨P, Z, p, _⟩ := kit_of I ry ty
  refine PySem.W.cmp_K (op := .Eq) hr.units0 hF I.ok.mod.kin J (Z.ty _ _ I.kIn p) nf hs hf (wpAny_mono (eqB_run F hb hx hr rfl I ry d) (fun r s' z => ?_) fun _ _ x => x)
  obtain ⟨rfl, H', I', e⟩ := z
  exact ⟨.bl c, H', I', rfl, q H' e⟩
theorem op_neB (F : FnOk X.prog X.w X.K X.mg X.base CX n f fd ps (spEqB R)) (hs : PySem.W.findIn X.K (.ref C) "__eq__" = some (some (.ref f))) (hn : PySem.W.findIn X.K (.ref C) "__ne__" = some (some (.builtin "object.__ne__"))) (ho : PySem.W.mroIn X.K C (.type "object") = some true)
    (hf : PySem.W.isFn X.K (.ref f) = true) (hb : L2.Binds X.K fd ps []) (hx : Passes CX X E) (hr : Room (n + 1) X.A) :
    OpR X (compareOp .NotEq) (rNeB X.K C R) := by
  intro pins s σ H x y v u Q I rx ry hq
  obtain ⟨a, dx, fs, t, c, rfl, ha, ty, nf, d, q⟩ := hq
  cases rx
  show wpAny (model X.prog X.w) X.A (richCompare .NotEq (.ref a) u) (EP X pins σ Q) X.xe s
  obtain ⟨mA, J, _⟩ := ins_get I.hok ha
  obtain ⟨od, J, _⟩ := J.look
  obtain ⟨m, hF⟩ := I.fr
  obtain ⟨P, Z, p, _⟩ := kit_of I ry ty
  have hu : X.A.units + 1 < cLine := by
    have := hr.un
    omega
  refine ne_K hu hF I.ok.mod.kin J (Z.ty _ _ I.kIn p) nf hn ho hs hf (wpAny_mono (eqB_run F hb hx hr.in1 rfl I ry d) (fun r s' z => ?_) fun _ _ x => x)
  obtain ⟨rfl, H', I', e⟩ := z
  exact ⟨c, rfl, .bl (!c), H', I', rfl, q H' e⟩
end
end Lamp
set_option maxHeartbeats 1000000
namespace Lamp
open PySem PySem.Spec PyProof.Rows L2
open C8 (InsC)
/-! ### House.__eq__ of a house and anything; repr of told data -/
theorem eqv_strsB : ∀ {xs ys : List Str}, PyData.eqvAll (xs.map PyData.str) (ys.map PyData.str) = decide (xs = ys)
  | [], [] => rfl
  | [], y :: ys => rfl
  | x :: xs, [] => rfl
  | x :: xs, y :: ys => by
    show ((x == y) && PyData.eqvAll (xs.map PyData.str) (ys.map PyData.str)) = decide (x :: xs = y :: ys)
    rw [eqv_strsB]
    by_cases h : x = y
    · subst h
      by_cases g : xs = ys
      · simp [g]
      · simp [g]
    · simp [h]
theorem eqv_pds : ∀ {xs ys : List Ed}, PyData.eqvAll (xs.map pd) (ys.map pd) = decide (xs = ys)
  | [], [] => rfl
  | [], y :: ys => rfl
  | x :: xs, [] => rfl
  | x :: xs, y :: ys => by
    show (((x.1 == y.1) && ((x.2 == y.2) && true)) && PyData.eqvAll (xs.map pd) (ys.map pd)) = decide (x :: xs = y :: ys)
    rw [eqv_pds]
    obtain ⟨a, b⟩ := x
    obtain ⟨c, d⟩ := y
    by_cases h : a = c
    · by_cases g : b = d
      · subst h
        subst g
        by_cases k : xs = ys
        · simp [k]
        · simp [k]
      · simp [g]
    · simp [h]
/-- what the own == says of a house and anything -/
def EqB (K : PySem.W.Frag) (C a : Addr) (y : V) (H : Hp) (b : Bool) : Prop :=
  (b = false ∧ (∃ dx fs, H a = some (.ins C dx fs)) ∧ ∃ t, (∀ H', Same H H' → TyX K H' y t) ∧ PySem.W.kitOne K t (.ref C) = some false) ∨
    ∃ c rs ds rt es, y = .ref c ∧ HouseAt H C a rs ds ∧ HouseAt H C c rt es ∧ (∀ r ∈ rs ++ rt, PyData.strOk r = true) ∧ (∀ d ∈ ds, d.1 ∈ rs ∧ d.2 ∈ rs) ∧ (∀ d ∈ es, d.1 ∈ rt ∧ d.2 ∈ rt) ∧ b = (decide (rs = rt) && decide (ds = es))
section
variable {P : Program} {w : World} {K : PySem.W.Frag} {mg : Str → Option Value} {base : Heap} {C : Addr}
theorem ok_eqB {f : Addr} {fd : FuncData} (F : Fun K "__eq__" "House.__eq__" m_House_eq f fd) (isi : mg "isinstance" = none) (gC : mg "House" = some (.ref C)) (c : ClsH K C) (I : InsC K C) : FnOk P w K mg base CX0 1 f fd ["self", "other"] (spEqB (EqB K C)) := by
  refine F.ok scHeq (fun vs H Q E h => ?_) (fun cdv A outer s H vs Q E hr h => ?_)
  · obtain ⟨a, y, b, rfl, _⟩ := h
    rfl
  · obtain ⟨a, y, b, rfl, d, k⟩ := h
    have hu : (A.deeper (envOfC (Str.ofString "House.__eq__") (defScope m_House_eq) s.heap.objs.size f cdv)).units + 64 < cLine := by
      have := hr.un
      omega
    refine ⟨_, pss_one (ps_ret (pe_and (pe_callB call_isi (by rfl) isi PyProof.Rows.Boot.isinstance (pa_cons (pv 1) (pa_cons (pe_glob (v := .ref C) (by rfl) gC rfl) pa_nil)))
      (pe_and (pe_cmpR (op_eqD hu) (pe_fld (f := "_rooms") (pv 0) (by rfl)) (pe_fld (f := "_rooms") (pv 1) (by rfl)) (nomark _))
        (pe_one (pe_cmpR (op_eqD hu) (pe_fld (f := "_doors") (pv 0) (by rfl)) (pe_fld (f := "_doors") (pv 1) (by rfl)) (nomark _)))))), ?_⟩
    rcases d with ⟨rfl, _, t, ty, kt⟩ | ⟨z, rs, ds, rt, es, rfl, ha, hb, sok, en1, en2, rfl⟩
    · exact ⟨_, rfl, y, .ref C, t, _, false, rfl, .own C, ty H (fun _ _ e => e), kt, _, rfl, iteF (k H Ext.rfl')⟩
    obtain ⟨dx, ra, da, na, ts, h1, h2, h3, h4, _⟩ := ha.at_
    obtain ⟨dy, sa, ea, oa, us, g1, g2, g3, g4, _⟩ := hb.at_
    have o1 : ∀ r ∈ rs, PyData.strOk r = true := fun r hr => sok r (List.mem_append_left _ hr)
    have o2 : ∀ r ∈ rt, PyData.strOk r = true := fun r hr => sok r (List.mem_append_right _ hr)
    have sR := shaped_strs o1
    have sR2 := shaped_strs o2
    have sD := shaped_pds (es := ds) fun e he => ⟨o1 _ (en1 e he).1, o1 _ (en1 e he).2⟩
    have sD2 := shaped_pds (es := es) fun e he => ⟨o2 _ (en2 e he).1, o2 _ (en2 e he).2⟩
    refine ⟨_, rfl, .ref z, .ref C, .ref C, _, true, rfl, .own C, .base (TyOf.ins g1 I.cl I.ha I.hn I.htk I.hm), I.me, _, rfl, iteT ?_⟩
    refine ⟨_, rfl, a, C, dx, _, _, rfl, h1, c.cls, c.nR, by rfl, _, rfl, z, C, dy, _, _, rfl, g1, c.cls, c.nR, by rfl, ?_⟩
    refine ⟨_, _, .lst (SqL.of h2) (dpAll_strs rs), .lst (SqL.of g2) (dpAll_strs rt), sR, sR2, ?_⟩
    rw [show PyData.eqv (.list (rs.map PyData.str)) (.list (rt.map PyData.str)) = decide (rs = rt) from eqv_strsB]
    cases e1 : decide (rs = rt) with
    | false =>
      rw [e1, Bool.false_and] at k
      exact ⟨_, rfl, iteF2 rfl (k H Ext.rfl')⟩
    | true =>
      rw [e1, Bool.true_and] at k
      refine ⟨_, rfl, iteT2 rfl ⟨_, rfl, a, C, dx, _, _, rfl, h1, c.cls, c.nD, by rfl, _, rfl, z, C, dy, _, _, rfl, g1, c.cls, c.nD, by rfl, ?_⟩⟩
      refine ⟨_, _, .lst (SqL.of h3) (dpAll_pd h4), .lst (SqL.of g3) (dpAll_pd g4), sD, sD2, ?_⟩
      rw [show PyData.eqv (.list (ds.map pd)) (.list (es.map pd)) = decide (ds = es) from eqv_pds]
      exact k H Ext.rfl'
end
/-- repr of data that is told: lists, tuples, texts -/
def rReprDp (K : PySem.W.Frag) : List V → Hp → VK → Prop := fun xs H Q => ∃ (a : Addr) (d : PyData), xs = [.ref a] ∧ Dp K H (.ref a) d ∧ d.showable = true ∧ d.hasDict = false ∧ d.depth ≤ 60 ∧ d.shown.length ≤ sizeLine ∧ Q (.str d.shown) H
theorem call_reprDp {X : Cx} (hg : X.A.guards = some []) (hu : X.A.units + 64 < cLine) : CallR X (.builtin "repr") (rReprDp X.K) := by
  intro pins s σ H xs us Q I r h
  obtain ⟨a, d, rfl, hd, sh, nd, dd, sz, q⟩ := h
  obtain ⟨u, rfl, ru⟩ := vals1 r
  obtain rfl : u = Value.ref a := ru
  obtain ⟨as, r1⟩ := Dp.reads I d _ _ hd rfl
  exact repr_of_reads' r1 sh (fun z => by rw [nd] at z; cases z) hg (by omega) (fun _ _ e => e) (fun h' u tk k => ⟨.str d.shown, H, I.kept (t' := tk) k, ⟨_, rfl⟩, q⟩) sz
end Lamp
set_option maxHeartbeats 4000000
namespace Lamp
open PySem PySem.Spec PyProof.Rows L2
open C8 (InsC)
open LamX (CodeO TabS Tabs ExtN TabB GivesTo tLam lamCx lamEnv LamS)
/-! ### _law_equal_right -/
section
variable {P : Program} {w : World} {K : PySem.W.Frag} {mg : Str → Option Value} {base : Heap} {C CR CD CN CM : Addr} {T : List (Addr × Str)}
/-- House.__init__ of what is right, lists or tuples -/
def spInitG (K : PySem.W.Frag) (C : Addr) : Sp := fun vs H Q _ => ∃ (x dx a b : Addr) (rs : List Str) (es : List Ed), vs = [.ref x, .ref a, .ref b] ∧ H x = some (.ins C dx []) ∧ RowA K H a (rs.map V.str) ∧ DoorsAt K H rs b es ∧ GoodH rs es ∧ (∀ r ∈ rs, nameOk r = true) ∧
  ∀ H' rs' ds, rs'.Perm rs → sortedS rs' = true → GoodH rs' ds → (∀ e ∈ es, ∃ d ∈ ds, Nrm d e) → Asc ds → (∀ d ∈ ds, ∃ e ∈ es, Nrm e d) → OwnH H H' C x rs' ds → Gx x H H' → Q .non H'
theorem initG {f : Addr} {fd : FuncData} (G : FnOk P w K mg base (L2.CX P w) 4 f fd ["self", "rooms", "doors"] (spInitA K C CR CD CN)) : FnOk P w K mg base CX0 4 f fd ["self", "rooms", "doors"] (spInitG K C) := FnOk.calm G fun vs H Q E ⟨x, dx, a, b, rs, es, e, hx, ra, da, gd, ok, k⟩ =>
  ⟨x, dx, .ref a, .ref b, e, hx, .inr ⟨a, rs, rfl, ra, gd.nodup, gd.ne, gd.len, ok, .inr ⟨b, es, rfl, da, PreH.of gd, .inl ⟨gd.join, k⟩⟩⟩⟩
/-- what the class House is to other types -/
structure EqT (P : Program) (w : World) (K : PySem.W.Frag) (mg : Str → Option Value) (base : Heap) (C : Addr) : Prop where
  ty : ∀ t : String, t = "NoneType" ∨ t = "int" ∨ t = "list" ∨ t = "dict" ∨ t = "str" → PySem.W.kitOne K (.type t) (.ref C) = some false ∧ PySem.W.notFirst K C (.type t) = true
  me : PySem.W.notFirst K C (.ref C) = true
  eqm : ∃ (f : Addr) (fd : FuncData), PySem.W.findIn K (.ref C) "__eq__" = some (some (.ref f)) ∧ PySem.W.isFn K (.ref f) = true ∧ FnOk P w K mg base CX0 1 f fd ["self", "other"] (spEqB (EqB K C)) ∧ L2.Binds K fd ["self", "other"] []
  nem : PySem.W.findIn K (.ref C) "__ne__" = some (some (.builtin "object.__ne__"))
  obj : PySem.W.mroIn K C (.type "object") = some true
  ins : InsC K C
structure TxtEq (mg : Str → Option Value) : Prop where
  tup : mg "tuple" = none
  any : mg "any" = none
  len : mg "len" = none
def spEqR (C : Addr) : Sp := fun vs H Q _ => ∃ (a l h p q : Addr) (n : Nat) (rs rs' : List Str) (ts : List Addr) (es ds : List Ed), vs = [.ref a, .ref h, .ref p, .ref q] ∧ Spr H a l n ∧ n ≤ 800000 ∧ Told H C h p q rs rs' ts es ds ∧ es.length + 1 = rs.length ∧ ∀ H' n', n' ≤ n + 100 → Sb a l H H' → Spr H' a l n' → Q (.bl true) H'
/-- asked of what is no house -/
theorem rq_ty {h : Addr} {rs : List Str} {ds : List Ed} {y : V} {t : String} {H : Hp} {Q : VK} (ET : EqT P w K mg base C) (hh : HouseAt H C h rs ds) (ht : t = "NoneType" ∨ t = "int" ∨ t = "list" ∨ t = "dict" ∨ t = "str") (ty : ∀ H', Same H H' → TyX K H' y (.type t)) (k : ∀ H', Same H H' → Q (.bl false) H') : rEqB K C (EqB K C) (.ref h) y H Q := by
  obtain ⟨dx, ra, da, na, ts, h1, _⟩ := hh.at_
  obtain ⟨k1, k2⟩ := ET.ty t ht
  exact ⟨h, dx, _, .type t, false, rfl, h1, ty H (fun _ _ e => e), k2, .inl ⟨rfl, ⟨_, _, h1⟩, _, ty, k1⟩, fun H' e => k H' e⟩
theorem eqb_two {h z : Addr} {rs rt : List Str} {ds es : List Ed} {H : Hp} (hh : HouseAt H C h rs ds) (hz : HouseAt H C z rt es) (g1 : GoodH rs ds) (g2 : GoodH rt es) (o1 : ∀ r ∈ rs, nameOk r = true) (o2 : ∀ r ∈ rt, nameOk r = true) : EqB K C h (.ref z) H (decide (rs = rt) && decide (ds = es)) :=
  .inr ⟨z, rs, ds, rt, es, rfl, hh, hz, fun r hr => by
    rcases List.mem_append.mp hr with hr | hr
    · exact strOk_name (o1 r hr)
    · exact strOk_name (o2 r hr), fun d hd => ⟨(g1.ends d hd).1, (g1.ends d hd).2.1⟩, fun d hd => ⟨(g2.ends d hd).1, (g2.ends d hd).2.1⟩, rfl⟩
theorem rq_house {h z : Addr} {rs rt : List Str} {ds es : List Ed} {H : Hp} {Q : VK} (ET : EqT P w K mg base C) (hh : HouseAt H C h rs ds) (hz : HouseAt H C z rt es) (g1 : GoodH rs ds) (g2 : GoodH rt es) (o1 : ∀ r ∈ rs, nameOk r = true) (o2 : ∀ r ∈ rt, nameOk r = true) (k : ∀ H', Same H H' → Q (.bl (decide (rs = rt) && decide (ds = es))) H') : rEqB K C (EqB K C) (.ref h) (.ref z) H Q := by
  obtain ⟨dx, ra, da, na, ts, h1, _⟩ := hh.at_
  obtain ⟨dy, _, _, _, _, h2, _⟩ := hz.at_
  have I := ET.ins
  exact ⟨h, dx, _, .ref C, _, rfl, h1, .base (TyOf.ins h2 I.cl I.ha I.hn I.htk I.hm), ET.me, eqb_two hh hz g1 g2 o1 o2, fun H' e => k H' e⟩
theorem rn_house {h z : Addr} {rs rt : List Str} {ds es : List Ed} {H : Hp} {Q : VK} (ET : EqT P w K mg base C) (hh : HouseAt H C h rs ds) (hz : HouseAt H C z rt es) (g1 : GoodH rs ds) (g2 : GoodH rt es) (o1 : ∀ r ∈ rs, nameOk r = true) (o2 : ∀ r ∈ rt, nameOk r = true) (k : ∀ H', Same H H' → Q (.bl (!(decide (rs = rt) && decide (ds = es)))) H') : rNeB K C (EqB K C) (.ref h) (.ref z) H Q := by
  obtain ⟨dx, ra, da, na, ts, h1, _⟩ := hh.at_
  obtain ⟨dy, _, _, _, _, h2, _⟩ := hz.at_
  have I := ET.ins
  exact ⟨h, dx, _, .ref C, _, rfl, h1, .base (TyOf.ins h2 I.cl I.ha I.hn I.htk I.hm), ET.me, eqb_two hh hz g1 g2 o1 o2, fun H' e => k H' e⟩
theorem house_off {G H : Hp} {z : Addr} {rt : List Str} {et : List Ed} (g : ∀ b o, H b = some o → G b = some o) (h : HouseAt H C z rt et) : HouseAt G C z rt et := h.same g
theorem inV_two (x y z : Str) : inV (.str x) [.str y, .str z] = (decide (y = x) || decide (z = x)) := by
  show ((y == x) || ((z == x) || false)) = _
  rw [Bool.or_false]
  rfl
theorem tups_putD {H : Hp} {D : Addr} {o : HO} {ws : List V} {us : List Addr} {es : List Ed} (h : TupsAt H us es) (hD : H D = some (.lst ws)) : TupsAt (upd H D o) us es := Paired.imp (fun t e q => by
  rw [upd_ne (ne_of q hD (by intro z; cases z))]
  exact q) h
theorem two_len {a b : Str} : ∀ {rs : List Str}, rs.Nodup → (∀ r ∈ rs, r ∈ [a, b]) → rs.length ≤ 2
  | [], _, _ => Nat.zero_le _
  | [_], _, _ => by show 1 ≤ 2; decide
  | [_, _], _, _ => Nat.le_refl _
  | x :: y :: z :: t, nd, sub => by
    have hx := sub x (by simp)
    have hy := sub y (by simp)
    have hz := sub z (by simp)
    simp only [List.mem_cons, List.not_mem_nil, or_false] at hx hy hz
    simp only [List.nodup_cons, List.mem_cons, not_or] at nd
    obtain ⟨⟨n1, n2, _⟩, ⟨n3, _⟩, _⟩ := nd
    rcases hx with rfl | rfl <;> rcases hy with rfl | rfl <;> rcases hz with rfl | rfl <;> first | exact absurd rfl n1 | exact absurd rfl n2 | exact absurd rfl n3
theorem near_iffB {rs rs' : List Str} {es ds : List Ed} (g : GoodH rs es) (g' : GoodH rs' ds) (pm : rs'.Perm rs) (nr : ∀ e ∈ es, ∃ d ∈ ds, Nrm d e) (rn : ∀ d ∈ ds, ∃ e ∈ es, Nrm e d) (x y : Str) : y ∈ nearOf ds x ↔ ((x, y) ∈ es ∨ (y, x) ∈ es) := by
  have back : ∀ {e d : Ed}, Nrm e d → (e = d ∨ (e.2, e.1) = d) := fun {e d} h => by
    rcases h with rfl | rfl
    · exact .inl rfl
    · exact .inr rfl
  constructor
  · intro h
    obtain ⟨_, h⟩ := near_ends g'.ends h
    rcases h with h | h
    · obtain ⟨e, he, n⟩ := rn _ h
      rcases back n with z | z
      · exact .inl (z ▸ he)
      · obtain ⟨h1, h2⟩ := Prod.mk.inj z
        exact .inr (by rw [← h1, ← h2]; exact he)
    · obtain ⟨e, he, n⟩ := rn _ h
      rcases back n with z | z
      · exact .inr (z ▸ he)
      · obtain ⟨h1, h2⟩ := Prod.mk.inj z
        exact .inl (by rw [← h1, ← h2]; exact he)
  · intro h
    refine near_of g'.ends ?_
    rcases h with h | h
    · obtain ⟨d, hd, n⟩ := nr _ h
      rcases back n with z | z
      · exact .inl (z ▸ hd)
      · obtain ⟨h1, h2⟩ := Prod.mk.inj z
        exact .inr (by rw [← h1, ← h2]; exact hd)
    · obtain ⟨d, hd, n⟩ := nr _ h
      rcases back n with z | z
      · exact .inr (z ▸ hd)
      · obtain ⟨h1, h2⟩ := Prod.mk.inj z
        exact .inl (by rw [← h1, ← h2]; exact hd)
theorem nrm3 {a b c : Ed} (h : Nrm a b) (g : Nrm b c) : Nrm a c := by
  rcases h with rfl | rfl
  · exact g
  · rcases g with rfl | rfl
    · exact .inr rfl
    · exact .inl rfl
/-- doors that ascend are told by the pairs -/
theorem doors_one {r1 r2 : List Str} {d1 d2 es fs : List Ed} (g1 : GoodH r1 d1) (g2 : GoodH r2 d2) (a1 : Asc d1) (a2 : Asc d2) (n1 : ∀ e ∈ es, ∃ d ∈ d1, Nrm d e) (m1 : ∀ d ∈ d1, ∃ e ∈ es, Nrm e d) (n2 : ∀ e ∈ fs, ∃ d ∈ d2, Nrm d e) (m2 : ∀ d ∈ d2, ∃ e ∈ fs, Nrm e d)
    (ef : ∀ e ∈ es, ∃ f ∈ fs, Nrm e f) (fe : ∀ f ∈ fs, ∃ e ∈ es, Nrm e f) : d1 = d2 := by
  have lss : ∀ {a b : Ed}, ltS a.1 a.2 = true → ltS b.1 b.2 = true → Nrm a b → a = b := fun {a b} h g n => by
    rcases n with rfl | rfl
    · rfl
    · have := ltS_asym h
      rw [show ltS a.2 a.1 = true from g] at this
      cases this
  have mem : ∀ d, d ∈ d1 ↔ d ∈ d2 := fun d => by
    constructor
    · intro hd
      obtain ⟨e, he, ne⟩ := m1 d hd
      obtain ⟨f, hf, nf⟩ := ef e he
      obtain ⟨c, hc, nc⟩ := n2 f hf
      rw [lss (a1.less d hd) (a2.less c hc) (nrm3 (nrm3 ne.symm nf) nc.symm)]
      exact hc
    · intro hd
      obtain ⟨f, hf, nf⟩ := m2 d hd
      obtain ⟨e, he, ne⟩ := fe f hf
      obtain ⟨c, hc, nc⟩ := n1 e he
      rw [lss (a2.less d hd) (a1.less c hc) (nrm3 (nrm3 nf.symm ne.symm) nc.symm)]
      exact hc
  exact lex_one ((List.perm_ext_iff_of_nodup (doors_nodup g1).1 (doors_nodup g2).1).mpr mem) a1.sort a2.sort
/-- pairs that were picked or loosened, as doors -/
theorem ru_doors {B H : Hp} {rs : List Str} : ∀ {us : List V} {ds : List Ed}, Paired (RU R0 B H) us (ds.map fun d => [d.1, d.2]) → (∀ d ∈ ds, d.1 ∈ rs ∧ d.2 ∈ rs ∧ d.1 ≠ d.2) → Paired (fun u e => DoorV K H rs u (some e)) us ds
  | [], [], .nil, _ => .nil
  | u :: us, d :: ds, .cons r q, m => by
    refine .cons ?_ (ru_doors q fun x hx => m x (List.mem_cons_of_mem _ hx))
    obtain ⟨p, vs, e, _, hp, h⟩ := r
    obtain rfl : vs = [.str d.1, .str d.2] := by
      cases h with
      | cons a h =>
        cases h with
        | cons b h =>
          cases h
          rw [show _ = V.str _ from a, show _ = V.str _ from b]
    refine ⟨p, e, ?_, m d List.mem_cons_self⟩
    rcases hp with hp | hp
    · exact .inl ⟨SqL.of hp, fun H' s => .base (.lst (s _ _ hp))⟩
    · exact .inr ⟨SqT.of hp, fun H' s => .base (.tup (s _ _ hp))⟩
theorem Told.gs {a l n : Nat} {H H' : Hp} {h p q : Addr} {rs rs' : List Str} {ts : List Addr} {es ds : List Ed} (t : Told H C h p q rs rs' ts es ds) (s : Spr H a l n) (g : Gs a l H H') : Told H' C h p q rs rs' ts es ds :=
  ⟨HouseAt.gs t.hh s g, g.keep s t.hp (ok_strs _), g.keep s t.hq (ok_refs _), TupsAt.gs t.ht s g, t.gd, t.gd', t.pm, t.so, t.nr, t.rn, t.asc, t.lrs, t.les, t.nok⟩
abbrev NEq : List Str := ["stream", "house", "rooms", "doors", "swapped", "twin", "others", "leaf", "kept", "far", "one", "other", "thing", "room", "pair", "some"]
theorem scEq : FnScope NEq ["stream", "house", "rooms", "doors"] (defScope s_law_equal_right) := ⟨rfl, rfl, rfl, by decide +kernel, rfl, by decide +kernel, by decide +kernel⟩
theorem ok_eqR {f fI : Addr} {fd dI : FuncData} (F : Fun K "_law_equal_right" "_law_equal_right" s_law_equal_right f fd) (TE : TxtEq mg) (ET : EqT P w K mg base C)
    (PO : Stands P w K mg base 2 "_law_pick" ["stream", "some"] spPickV) (MO : Stands P w K mg base 2 "_law_mixed" ["stream", "some"] (spMixed K)) (BO : Stands P w K mg base 1 "_law_h_beside" ["doors", "room"] spBesideS)
    (M : Mk K C fI) (GI : FnOk P w K mg base CX0 4 fI dI ["self", "rooms", "doors"] (spInitG K C)) (mC : mg "House" = some (.ref C)) (bI : L2.Binds K dI ["self", "rooms", "doors"] []) :
    FnOk P w K mg base CX0 10 f fd ["stream", "house", "rooms", "doors"] (spEqR C) := by
  obtain ⟨fp, dp, Gp, mp, kp, bp⟩ := PO
  obtain ⟨fm, dm, Gm, mm, km, bm⟩ := MO
  obtain ⟨fb, db, Gb, mb, kb, bb⟩ := BO
  obtain ⟨fq, dq, hs, hf, FQ, bq⟩ := ET.eqm
  refine F.ok scEq (fun vs H Q E h => ?_) (fun cdv A outer s H vs Q E hr h => ?_)
  · obtain ⟨a, l, h, p, q, n, rs, rs', ts, es, ds, rfl, _⟩ := h
    rfl
  · obtain ⟨a, l, h, p, q, n, rs, rs', ts, es, ds, rfl, hS, hn, td, lee, k⟩ := h
    have hu1 : (A.deeper (envOfC (Str.ofString "_law_equal_right") (defScope s_law_equal_right) s.heap.objs.size f cdv)).units + 64 < cLine := by
      have := hr.un
      omega
    refine ⟨_, pss_cons (ps_setLc (i := 4) (te := tCall spPickV [] E0 (tCons (tVar 0) (tCons (tLst (tCons (tLst (tCons (tVar 10) (tCons (tVar 11) tNil))) (tCons (tTup (tCons (tVar 11) (tCons (tVar 10) tNil))) tNil))) tNil))) (own := [("one", 10), ("other", 11)]) (g := gTup K 2 (gCons (gName 10) (gCons (gName 11) gNil))) (tt := tYes) rfl scEq.nd rfl rfl (sw_true rfl rfl rfl (by decide +kernel)) (pi_list (pe_call Gm (hr.mono (by decide)) (by rfl) mm km bm .nil pass0 (pa_cons (pv 0) (pa_cons (pv 3) pa_nil)))) (blkOk_by (N := NEq) (sc := defScope s_law_equal_right) (by decide +kernel))
          (fun _ _ _ _ _ => pg_tup rfl (pgs_cons (pg_name (i := 10) scEq.nd rfl (Or.inl rfl)) (pgs_cons (pg_name (i := 11) scEq.nd rfl (Or.inl rfl)) pgs_nil))) (fun _ _ _ _ _ => pts_nil)
          (fun _ _ _ _ _ => by exact (pe_call Gp (hr.mono (by decide)) (by rfl) mp kp bp .nil pass0 (pa_cons (pv 0) (pa_cons (pe_lst (pa_cons (pe_lst (pa_cons (pv 10) (pa_cons (pv 11) pa_nil))) (pa_cons (pe_tup (pa_cons (pv 11) (pa_cons (pv 10) pa_nil))) pa_nil))) pa_nil)))))
      (pss_cons (ps_set (i := 5) scEq.nd rfl (Or.inl rfl) (pe_make M GI (hr.mono (by decide)) (by rfl) mC bI .nil pass0 (pa_cons (pe_callTy call_tuple_of (by rfl) TE.tup (by decide +kernel) (pa_cons (pe_call Gm (hr.mono (by decide)) (by rfl) mm km bm .nil pass0 (pa_cons (pv 0) (pa_cons (pv 2) pa_nil))) pa_nil)) (pa_cons (pv 4) pa_nil))))
      (pss_cons (ps_if (PW.pt (pw_or (pt_not (pt_cmpR (op_eqB FQ hs hf bq pass0 (hr.mono (by decide))) (pv 1) (pv 5) (nomark _))) (pw_or (pt_cmpR (op_neB FQ hs ET.nem ET.obj hf bq pass0 (hr.mono (by decide))) (pv 1) (pv 5) (nomark _))
          (pw_or1 (pt_val (pe_callB (cr_any rfl) (by rfl) TE.any PyProof.Rows.Boot.any (pa_cons (pe_lc (te := tOp (rEqB K C (EqB K C)) (tVar 1) (tVar 12)) (own := [("thing", 12)]) (g := gName 12) (tt := tYes) rfl scEq.nd (pi_tup (pe_tup (pa_cons pe_non (pa_cons pe_int (pa_cons (pv 2) (pa_cons (pv 3) (pa_cons pe_dnewK (pa_cons pe_str pa_nil)))))))) (blkOk_by (N := NEq) (sc := defScope s_law_equal_right) (by decide +kernel))
            (fun _ _ _ _ _ => pg_name (i := 12) scEq.nd rfl (Or.inl rfl)) (fun _ _ _ _ _ => pts_nil) (fun _ _ _ _ _ => by exact (pe_cmpR (op_eqB FQ hs hf bq pass0 (hr.mono (by decide))) (pv 1) (pv 12) (nomark _)))) pa_nil))))))) pss_dead pss_nil)
      (pss_cons (ps_set (i := 6) scEq.nd rfl (Or.inl rfl) (pe_lst (pa_cons (pe_make M GI (hr.mono (by decide)) (by rfl) mC bI .nil pass0 (pa_cons (pe_op op_cat (pv 2) (pe_lst (pa_cons pe_str pa_nil))) (pa_cons (pe_op op_cat (pv 3) (pe_lst (pa_cons (pe_tup (pa_cons pe_str (pa_cons (pe_ix ix_list (pv 2) pe_int (fun _ _ => rfl)) pa_nil))) pa_nil))) pa_nil))) pa_nil)))
      (C8.pss_cut (ps_if (pt_cmpR op_gt (pe_callB call_len_seq (by rfl) TE.len PySem.boot_len (pa_cons (pv 2) pa_nil)) pe_int (nomark _))
        (pss_cons (ps_set (i := 7) scEq.nd rfl (Or.inr rfl) (pe_ix ix_list (pe_lc (te := tVar 13) (own := [("room", 13)]) (g := gName 13) (tt := tTest (tOp rEq (tCB (rLenS K) (tCons (tCall spBesideS [] E0 (tCons (tVar 3) (tCons (tVar 13) tNil))) tNil)) (tC (.int 1)))) rfl scEq.nd (pi_list (pv 2)) (blkOk_by (N := NEq) (sc := defScope s_law_equal_right) (by decide +kernel))
            (fun _ _ _ _ _ => pg_name (i := 13) scEq.nd rfl (Or.inl rfl)) (fun _ _ _ _ _ => by exact (pts_one (pt_cmpR op_eq (pe_callB call_len_seq (by rfl) TE.len PySem.boot_len (pa_cons (pe_call Gb (hr.mono (by decide)) (by rfl) mb kb bb .nil pass0 (pa_cons (pv 3) (pa_cons (pv 13) pa_nil))) pa_nil)) pe_int (nomark _)))) (fun _ _ _ _ _ => pv 13)) pe_int (fun _ _ => rfl)))
        (pss_cons (ps_setLc (i := 8) (te := tVar 14) (own := [("pair", 14)]) (g := gName 14) (tt := tTest (tOp (rIn K true) (tVar 7) (tVar 14))) rfl scEq.nd rfl rfl (sw_true rfl rfl rfl (by decide +kernel)) (pi_list (pv 3)) (blkOk_by (N := NEq) (sc := defScope s_law_equal_right) (by decide +kernel))
            (fun _ _ _ _ _ => pg_name (i := 14) scEq.nd rfl (Or.inl rfl)) (fun _ _ _ _ _ => by exact (pts_one (pt_cmpR op_notIn_seq (pv 7) (pv 14) (by rfl)))) (fun _ _ _ _ _ => pv 14))
        (pss_cons (ps_set (i := 9) scEq.nd rfl (Or.inl rfl) (pe_ix ix_list (pe_lc (te := tVar 13) (own := [("room", 13)]) (g := gName 13) (tt := tAnd (tTest (tOp rNe (tVar 13) (tVar 7))) (tTest (tOp (rIn K true) (tVar 13) (tCall spBesideS [] E0 (tCons (tVar 3) (tCons (tVar 7) tNil)))))) rfl scEq.nd (pi_list (pv 2)) (blkOk_by (N := NEq) (sc := defScope s_law_equal_right) (by decide +kernel))
            (fun _ _ _ _ _ => pg_name (i := 13) scEq.nd rfl (Or.inl rfl)) (fun _ _ _ _ _ => by exact (pts_one (PW.pt (pw_and (pt_cmpR op_ne (pv 13) (pv 7) (nomark _)) (pw_and1 (pt_cmpR op_notIn_seq (pv 13) (pe_call Gb (hr.mono (by decide)) (by rfl) mb kb bb .nil pass0 (pa_cons (pv 3) (pa_cons (pv 7) pa_nil))) (by rfl))))))) (fun _ _ _ _ _ => pv 13)) pe_int (fun _ _ => rfl)))
        (pss_one (ps_expr (pe_bm PySem.F.plainAttrs_list PySem.F.slot_list_append PySem.F.type_list_append mt_append (pv 6) (pa_cons (pe_make M GI (hr.mono (by decide)) (by rfl) mC bI .nil pass0 (pa_cons (pv 2) (pa_cons (pe_op op_cat (pv 8) (pe_lst (pa_cons (pe_tup (pa_cons (pv 7) (pa_cons (pv 9) pa_nil))) pa_nil))) pa_nil))) pa_nil) (by rfl) (by rfl))))))) pss_nil)
      (pss_one (ps_ret (pe_not (pe_callB (cr_any rfl) (by rfl) TE.any PyProof.Rows.Boot.any (pa_cons (pe_lc (te := tOrV (tOp (rEqB K C (EqB K C)) (tVar 1) (tVar 15)) (tOp (rEqB K C (EqB K C)) (tVar 15) (tVar 1))) (own := [("some", 15)]) (g := gName 15) (tt := tYes) rfl scEq.nd (pi_list (pv 6)) (blkOk_by (N := NEq) (sc := defScope s_law_equal_right) (by decide +kernel))
            (fun _ _ _ _ _ => pg_name (i := 15) scEq.nd rfl (Or.inl rfl)) (fun _ _ _ _ _ => pts_nil) (fun _ _ _ _ _ => by exact (pe_or (pe_cmpR (op_eqB FQ hs hf bq pass0 (hr.mono (by decide))) (pv 1) (pv 15) (nomark _)) (pe_one (pe_cmpR (op_eqB FQ hs hf bq pass0 (hr.mono (by decide))) (pv 15) (pv 1) (nomark _)))))) pa_nil))))))))), ?_⟩
    have ok : ∀ r ∈ rs, nameOk r = true := fun r hr => (td.nok r hr).1
    have ok' : ∀ r ∈ rs', nameOk r = true := fun r hr => ok r (td.pm.mem_iff.mp hr)
    have lts : ts.length = es.length := paired_len td.ht
    have les := td.les
    have lrs := td.lrs
    refine ⟨_, rfl, _, rfl, a, l, q, n, _, rfl, hS, .inl (SqL.of td.hq), by rw [List.length_map]; omega, by rw [List.length_map]; omega, fun H1 q1 ys sb s1 nq1 eq1 py => ?_⟩
    have g1 : Gs a l H H1 := Gs.of sb s1
    obtain ⟨zs, rfl, pz⟩ := perm_refs py
    rw [List.length_map, lts] at s1
    obtain ⟨es1, pes, tz⟩ := paired_permL pz.symm (td.gs hS g1).ht
    replace tz : TupsAt H1 zs es1 := tz
    have td1 := td.gs hS g1
    refine ⟨q1, rfl, ⟨_, SqL.of eq1⟩, fun D hD => ?_⟩
    obtain ⟨B, hB⟩ : ∃ B, B = upd H1 D (.lst []) := ⟨_, rfl⟩
    have eB : B D = some (.lst []) := by
      rw [hB]
      exact upd_same
    have lz : zs.length = es1.length := paired_len tz
    have le1 : es1.length = es.length := pes.length_eq.symm
    have I2 := itemU item0
    refine lc_it (walk_list (xs := zs.map V.ref)) (fun j H' => ∃ (us : List V) (ds2 : List Ed), H' D = some (.lst us) ∧ Paired (RU R0 B H') us (ds2.map fun d => [d.1, d.2]) ∧ Paired Nrm (es1.take j) ds2 ∧ Gs a l H1 H' ∧ Spr H' a l (n + es.length + j) ∧ ∀ b, H' b = none → B b = none) ⟨[], [], upd_same, .nil, .nil, (Gr.upd hD).gs, s1.stay (same_upd hD), by rw [hB]; exact fun b z => z⟩ (fun j H' _ ⟨us, ds2, q1, q2, q3, q4, _⟩ => SqL.of (q4.keep s1 eq1 (ok_refs _))) ?_ ?_
    · rintro j v H' H'' hj ⟨us, ds2, w1, w2, w3, w4, w5, w6⟩ ⟨rfl, hv⟩
      rw [List.getElem?_map] at hv
      obtain ⟨t, et, rfl⟩ := Option.map_eq_some_iff.mp hv
      obtain ⟨e, ee, te⟩ := paired_at tz et
      have te' := w4.keep s1 te rfl
      have lj : j < es.length := by
        rw [List.length_map] at hj
        omega
      refine ⟨t, _, rfl, SqT.of te', rfl, _, _, rfl, _, _, rfl, rfl, rfl, ?_⟩
      refine ⟨_, rfl, _, rfl, _, rfl, (by show 2 ≤ sizeLine; decide), fun L1 nL1 => ?_⟩
      have gM1 : Gr H'' (upd H'' L1 (.lst [.str e.1, .str e.2])) := Gr.upd nL1
      have eL1 : upd H'' L1 (.lst [.str e.1, .str e.2]) L1 = some (.lst [.str e.1, .str e.2]) := upd_same
      generalize upd H'' L1 (.lst [.str e.1, .str e.2]) = M1 at gM1 eL1 ⊢
      refine ⟨_, rfl, _, rfl, (by show 2 ≤ sizeLine; decide), fun T1 nT1 => ?_⟩
      have gM2 : Gr M1 (upd M1 T1 (.tup [.str e.2, .str e.1])) := Gr.upd nT1
      have eT1 : upd M1 T1 (.tup [.str e.2, .str e.1]) T1 = some (.tup [.str e.2, .str e.1]) := upd_same
      generalize upd M1 T1 (.tup [.str e.2, .str e.1]) = M2 at gM2 eT1 ⊢
      refine ⟨(by show 2 ≤ sizeLine; decide), fun LL nLL => ?_⟩
      have gM3 : Gr M2 (upd M2 LL (.lst [.ref L1, .ref T1])) := Gr.upd nLL
      have eLL : upd M2 LL (.lst [.ref L1, .ref T1]) LL = some (.lst [.ref L1, .ref T1]) := upd_same
      generalize upd M2 LL (.lst [.ref L1, .ref T1]) = M3 at gM3 eLL ⊢
      have g13 := (gM1.trans gM2).trans gM3
      have s3 := w5.stay g13.s
      have nLL2 := (gM1.trans gM2).n _ nLL
      refine ⟨a, l, LL, n + es.length + j, _, rfl, s3, eLL, w5.na nLL2, w5.nl nLL2, (by intro z; cases z), by omega, (by show 2 < 1000000; decide), fun H3 x mx g3 s4 => ?_⟩
      have gA := g13.gs.trans g3
      have oky : okO (.lst us) = true := ok_noInt (paired_l (fun _ _ r => I2.rni r) w2)
      have eD3 := gA.keep w5 w1 oky
      have w2' : Paired (RU R0 B H3) us (ds2.map fun d => [d.1, d.2]) := Paired.imp (fun _ _ r => I2.rgs r w5 gA) w2
      have tk : es1.take (j + 1) = es1.take j ++ [e] := by
        rw [List.take_add_one, ee]
        rfl
      have st2 : ∀ (G : Hp) (x y : Str), Paired (R0 B G) [.str x, .str y] [x, y] := fun G x y => .cons rfl (.cons rfl .nil)
      have new1 : ∀ {z : Addr}, H'' z = none → B z = none := fun h => w6 _ h
      obtain ⟨d, nd, rx⟩ : ∃ d : Ed, Nrm e d ∧ RU R0 B H3 x [d.1, d.2] := by
        rcases List.mem_cons.mp mx with rfl | mx
        · exact ⟨e, .inl rfl, I2.rgs ⟨L1, _, rfl, new1 nL1, .inl ((gM2.trans gM3).s _ _ eL1), st2 _ _ _⟩ s3 g3⟩
        · rw [List.mem_singleton.mp mx]
          exact ⟨(e.2, e.1), .inr rfl, I2.rgs ⟨T1, _, rfl, new1 (gM1.n _ nT1), .inr (gM3.s _ _ eT1), st2 _ _ _⟩ s3 g3⟩
      have all3 : Paired (RU R0 B H3) (us ++ [x]) ((ds2 ++ [d]).map fun d => [d.1, d.2]) := by
        rw [List.map_append]
        exact paired_snoc rx w2'
      refine ⟨_, eD3, ?_, us ++ [x], ds2 ++ [d], upd_same, Paired.imp (fun _ _ r => I2.rup r eB) all3, ?_, (w4.trans gA).put hD, s4.updN (s1.na hD) (s1.nl hD), fun b z => w6 b (gA.n b (none_upd z).2)⟩
      · rw [paired_len w2, List.length_map, ← paired_len w3, List.length_take]
        exact Nat.lt_of_le_of_lt (Nat.min_le_left _ _) (Nat.lt_trans lj (Nat.lt_of_lt_of_le les (by decide)))
      · rw [tk]
        exact paired_snoc nd w3
    rintro H2 ⟨us, ds2, w1, w2, w3, w4, w5, w6⟩
    rw [List.length_map, lz, List.take_length] at w3
    rw [List.length_map, lz, le1] at w5
    have td2 := td1.gs s1 w4
    -- twin
    refine ⟨_, rfl, _, rfl, a, l, p, _, _, rfl, w5, .inl (SqL.of td2.hp), by rw [List.length_map]; omega, by rw [List.length_map]; omega, fun H3 q3 ys3 sb3 s3 nq3 eq3 py3 => ?_⟩
    have g3 : Gs a l H2 H3 := Gs.of sb3 s3
    obtain ⟨zr, rfl, pzr⟩ := perm_strs py3
    rw [List.length_map] at s3
    refine ⟨q3, _, rfl, .inl ⟨SqL.of eq3, fun tt ntt => ?_⟩⟩
    have gH4 : Gr H3 (upd H3 tt (.tup (zr.map V.str))) := Gr.upd ntt
    have ett : upd H3 tt (.tup (zr.map V.str)) tt = some (.tup (zr.map V.str)) := upd_same
    generalize upd H3 tt (.tup (zr.map V.str)) = H4 at gH4 ett ⊢
    have okz : ∀ r ∈ zr, nameOk r = true := fun r hr => ok r (pzr.mem_iff.mp hr)
    have gdz : GoodH zr ds2 := (td.gd.turn (List.Perm.refl rs) (nrm_refl es) pes.symm).turn pzr w3 (List.Perm.refl _)
    have w2' : Paired (RU R0 B H4) us (ds2.map fun d => [d.1, d.2]) := Paired.imp (fun _ _ r => I2.rgs r w5 (g3.trans gH4.gs)) w2
    have oky : okO (.lst us) = true := ok_noInt (paired_l (fun _ _ r => I2.rni r) w2)
    have eD4 := (g3.trans gH4.gs).keep w5 w1 oky
    have td4 := td2.gs w5 (g3.trans gH4.gs)
    have da4 : DoorsAt K H4 zr D ds2 := ⟨us, .inl ⟨SqL.of eD4, fun H' s => .base (.lst (s _ _ eD4))⟩, ru_doors w2' fun d hd => gdz.ends d hd⟩
    have sb4 : Sb a l H H4 := (((g1.trans w4).trans g3).trans gH4.gs).s
    have s4 := s3.stay gH4.s
    refine ⟨_, rfl, fun x dx nx ndx nex => ?_⟩
    have s0 := made_same (C := C) nx ndx
    refine ⟨x, dx, tt, D, zr, ds2, rfl, upd_same, .inr ⟨SqT.of (s0 _ _ ett), fun H' s => .base (.tup (s _ _ (s0 _ _ ett)))⟩, da4.up s0, gdz, okz, fun H5 rs2 ds3 pm2 so2 gd3 nr2 asc2 rn2 own2 gx2 => ⟨rfl, ?_⟩⟩
    have s45 : Same H4 H5 := made_gx nx ndx gx2
    have td5 := td4.extN (ExtN.of s45)
    have hh5 : HouseAt H5 C x rs2 ds3 := own2.at_
    obtain rfl : rs' = rs2 := sorted_one (td.pm.trans (pm2.trans pzr).symm) td.so so2
    obtain rfl : ds = ds3 := doors_one td.gd' gd3 td.asc asc2 td.nr td.rn nr2 rn2 (fun e he => by
      obtain ⟨d, hd, n⟩ := nrm_l w3 e (pes.mem_iff.mp he)
      exact ⟨d, hd, n.symm⟩) (fun d hd => by
      obtain ⟨e, he, n⟩ := nrm_r w3 d hd
      exact ⟨e, pes.mem_iff.mpr he, n⟩)
    have bt : (decide (rs' = rs') && decide (ds = ds)) = true := by
      rw [decide_eq_true rfl, decide_eq_true rfl]
      rfl
    refine ⟨_, rfl, _, rfl, rq_house ET td5.hh hh5 td.gd' gd3 ok' ok' fun H6 s6 => ⟨_, rfl, iteF2 (by rw [bt]; rfl) ?_⟩⟩
    refine ⟨_, rfl, _, rfl, rn_house ET (td5.hh.same s6) (hh5.same s6) td.gd' gd3 ok' ok' fun H7 s7 => ⟨_, rfl, iteF2 (by rw [bt]; rfl) ?_⟩⟩
    have s57 : Same H5 H7 := s6.trans s7
    refine ⟨_, rfl, _, rfl, fun dd ndd => ?_⟩
    have gH8 : Gr H7 (upd H7 dd (.dK [])) := Gr.upd ndd
    have edd : upd H7 dd (.dK []) dd = some (.dK []) := upd_same
    generalize upd H7 dd (.dK []) = H8 at gH8 edd ⊢
    refine ⟨(by show 6 ≤ sizeLine; decide), fun TU nTU => ?_⟩
    have gH9 : Gr H8 (upd H8 TU (.tup [.non, .int 5, .ref p, .ref q, .ref dd, .str "a"])) := Gr.upd nTU
    have eTU : upd H8 TU (.tup [.non, .int 5, .ref p, .ref q, .ref dd, .str "a"]) TU = some (.tup [.non, .int 5, .ref p, .ref q, .ref dd, .str "a"]) := upd_same
    generalize upd H8 TU (.tup [.non, .int 5, .ref p, .ref q, .ref dd, .str "a"]) = H9 at gH9 eTU ⊢
    have s59 : Same H5 H9 := (s57.trans gH8.s).trans gH9.s
    have td9 := td5.extN (ExtN.of s59)
    have edd9 := gH9.s _ _ edd
    refine ⟨TU, rfl, ⟨_, SqT.of eTU⟩, fun D2 hD2 => ?_⟩
    have tys : ∀ v ∈ [V.non, .int 5, .ref p, .ref q, .ref dd, .str "a"], ∃ t : String, (t = "NoneType" ∨ t = "int" ∨ t = "list" ∨ t = "dict" ∨ t = "str") ∧ ∀ H', Same H9 H' → TyX K H' v (.type t) := fun v hv => by
      simp only [List.mem_cons, List.not_mem_nil, or_false] at hv
      rcases hv with rfl | rfl | rfl | rfl | rfl | rfl
      · exact ⟨_, .inl rfl, fun _ _ => .base .non⟩
      · exact ⟨_, .inr (.inl rfl), fun _ _ => .base (.int _)⟩
      · exact ⟨_, .inr (.inr (.inl rfl)), fun _ s => .base (.lst (s _ _ td9.hp))⟩
      · exact ⟨_, .inr (.inr (.inl rfl)), fun _ s => .base (.lst (s _ _ td9.hq))⟩
      · exact ⟨_, .inr (.inr (.inr (.inl rfl))), fun _ s => .base (.dK (s _ _ edd9))⟩
      · exact ⟨_, .inr (.inr (.inr (.inr rfl))), fun _ _ => .base (.str _)⟩
    refine lc_it (walk_tup (xs := [V.non, .int 5, .ref p, .ref q, .ref dd, .str "a"])) (fun j H' => H' D2 = some (.lst ((List.replicate j false).map V.bl)) ∧ Same H9 H') ⟨upd_same, same_upd hD2⟩ (fun j H' _ q => Same.seqT q.2 (SqT.of eTU)) ?_ ?_
    · rintro j v H' H'' hj ⟨v1, v2⟩ ⟨rfl, hv⟩
      obtain ⟨t, ht, ty⟩ := tys v (List.mem_of_getElem? hv)
      refine ⟨rfl, _, rfl, _, rfl, rq_ty ET (td9.hh.same v2) ht (fun H' s => ty H' (v2.trans s)) fun M s' => ?_⟩
      have vD := s' _ _ v1
      refine ⟨_, vD, ?_, ?_, fun b o e => ?_⟩
      · rw [List.length_map, List.length_replicate]
        exact Nat.lt_of_lt_of_le hj (by show 6 ≤ sizeLine; decide)
      · rw [upd_same, List.replicate_succ', List.map_append]
        rfl
      · rw [upd_ne (ne_of_none e hD2)]
        exact s' _ _ (v2 _ _ e)
    rintro H10 ⟨v1, v2⟩
    refine ⟨D2, List.replicate 6 false, rfl, .inl (.inl v1), _, rfl, iteF2 (by decide) ?_⟩
    have td10 := td9.extN (ExtN.of v2)
    have s410 : Same H4 H10 := (s45.trans s59).trans v2
    clear tys v1 eTU edd edd9
    -- others
    obtain ⟨r0, rt0, ers⟩ : ∃ r0 rt, rs = r0 :: rt := by
      cases rs with
      | nil => exact absurd rfl td.gd.ne
      | cons r0 rt => exact ⟨r0, rt, rfl⟩
    have mr0 : r0 ∈ rs := by rw [ers]; exact List.mem_cons_self
    have nev : ("never" : Str) ∉ rs := fun m => (td.nok _ m).2 rfl
    have lpos : 0 < rs.length := List.length_pos_iff.mpr td.gd.ne
    refine ⟨_, rfl, (by show 1 ≤ sizeLine; decide), fun u1 nu1 => ?_⟩
    have gK1 : Gr H10 (upd H10 u1 (.lst [.str "never"])) := Gr.upd nu1
    have eu1 : upd H10 u1 (.lst [.str "never"]) u1 = some (.lst [.str "never"]) := upd_same
    generalize upd H10 u1 (.lst [.str "never"]) = K1 at gK1 eu1 ⊢
    refine ⟨p, u1, _, _, rfl, rfl, gK1.s _ _ td10.hp, eu1, (by rw [List.length_map]; exact Nat.le_trans (show rs.length + 1 ≤ 100 by omega) (by decide)), fun u2 nu2 => ?_⟩
    rw [show rs.map V.str ++ [V.str "never"] = (rs ++ [("never" : Str)]).map V.str by rw [List.map_append]; rfl]
    have gK2 : Gr K1 (upd K1 u2 (.lst ((rs ++ [("never" : Str)]).map V.str))) := Gr.upd nu2
    have eu2 : upd K1 u2 (.lst ((rs ++ [("never" : Str)]).map V.str)) u2 = some (.lst ((rs ++ [("never" : Str)]).map V.str)) := upd_same
    generalize upd K1 u2 (.lst ((rs ++ [("never" : Str)]).map V.str)) = K2 at gK2 eu2 ⊢
    refine ⟨_, rfl, _, rfl, p, _, 0, .str r0, rfl, rfl, SqL.of ((gK1.trans gK2).s _ _ td10.hp), atI_nat (j := 0) (by rw [ers]; rfl), (by show 2 ≤ sizeLine; decide), fun u3 nu3 => ?_⟩
    have gK3 : Gr K2 (upd K2 u3 (.tup [.str "never", .str r0])) := Gr.upd nu3
    have eu3 : upd K2 u3 (.tup [.str "never", .str r0]) u3 = some (.tup [.str "never", .str r0]) := upd_same
    generalize upd K2 u3 (.tup [.str "never", .str r0]) = K3 at gK3 eu3 ⊢
    refine ⟨(by show 1 ≤ sizeLine; decide), fun u4 nu4 => ?_⟩
    have gK4 : Gr K3 (upd K3 u4 (.lst [.ref u3])) := Gr.upd nu4
    have eu4 : upd K3 u4 (.lst [.ref u3]) u4 = some (.lst [.ref u3]) := upd_same
    generalize upd K3 u4 (.lst [.ref u3]) = K4 at gK4 eu4 ⊢
    have g104 := ((gK1.trans gK2).trans gK3).trans gK4
    refine ⟨q, u4, _, _, rfl, rfl, g104.s _ _ td10.hq, eu4, (by rw [List.length_map, lts]; exact Nat.le_trans (show es.length + 1 ≤ 100 by omega) (by decide)), fun u5 nu5 => ?_⟩
    rw [show ts.map V.ref ++ [V.ref u3] = (ts ++ [u3]).map V.ref by rw [List.map_append]; rfl]
    have gK5 : Gr K4 (upd K4 u5 (.lst ((ts ++ [u3]).map V.ref))) := Gr.upd nu5
    have eu5 : upd K4 u5 (.lst ((ts ++ [u3]).map V.ref)) u5 = some (.lst ((ts ++ [u3]).map V.ref)) := upd_same
    generalize upd K4 u5 (.lst ((ts ++ [u3]).map V.ref)) = K5 at gK5 eu5 ⊢
    have g105 := g104.trans gK5
    intro x2 dx2 nx2 ndx2 nex2
    have t0 := made_same (C := C) nx2 ndx2
    have gl4 : GoodH (rs ++ [("never" : Str)]) (es ++ [(("never" : Str), r0)]) := td.gd.leaf nev mr0 (by omega) (by omega)
    have ok4 : ∀ r ∈ rs ++ [("never" : Str)], nameOk r = true := fun r hr => by
      rcases List.mem_append.mp hr with hr | hr
      · exact ok r hr
      · rw [List.mem_singleton.mp hr]
        decide +kernel
    have eu2' := t0 _ _ (((gK3.trans gK4).trans gK5).s _ _ eu2)
    have eu5' := t0 _ _ eu5
    have tp5 : TupsAt K5 (ts ++ [u3]) (es ++ [(("never" : Str), r0)]) := paired_snoc (R := fun (t : Addr) (e : Ed) => K5 t = some (.tup [.str e.1, .str e.2])) (a := u3) (b := (("never" : Str), r0)) ((gK4.trans gK5).s _ _ eu3) (tups_up td10.ht g105.s)
    refine ⟨x2, dx2, u2, u5, rs ++ [("never" : Str)], es ++ [(("never" : Str), r0)], rfl, upd_same, .inl ⟨SqL.of eu2', fun H' s => .base (.lst (s _ _ eu2'))⟩, ⟨_, .inl ⟨SqL.of eu5', fun H' s => .base (.lst (s _ _ eu5'))⟩, doors_refs (tups_up tp5 t0) gl4.ends⟩, gl4, ok4, fun K6 rs4 ds4 pm4 so4 gd4 nr4 asc4 rn4 own4 gx4 => ⟨rfl, ?_⟩⟩
    have s56 : Same K5 K6 := made_gx nx2 ndx2 gx4
    have hx2 : HouseAt K6 C x2 rs4 ds4 := own4.at_
    have ne4 : rs' ≠ rs4 := fun z => by
      have h1 := pm4.length_eq
      rw [← z, td.pm.length_eq, List.length_append] at h1
      have : rs.length = rs.length + 1 := h1
      omega
    have okr4 : ∀ r ∈ rs4, nameOk r = true := fun r hr => ok4 r (pm4.mem_iff.mp hr)
    refine ⟨(by show 1 ≤ sizeLine; decide), fun OL nOL => ?_⟩
    have gK7 : Gr K6 (upd K6 OL (.lst [.ref x2])) := Gr.upd nOL
    have eOL : upd K6 OL (.lst [.ref x2]) OL = some (.lst [.ref x2]) := upd_same
    generalize upd K6 OL (.lst [.ref x2]) = K7 at gK7 eOL ⊢
    have s107 : Same H10 K7 := (g105.s.trans s56).trans gK7.s
    have td17 := td10.extN (ExtN.of s107)
    have nOL6 := nOL
    have outH : ∀ {b : Addr} {o : HO}, K6 b = some o → b ≠ OL := fun e => ne_of_none e nOL6
    -- the houses that are not equal
    let Oth : Hp → Addr → Prop := fun G z => ∃ rt et, (∀ G', (∀ b o, b ≠ OL → G b = some o → G' b = some o) → HouseAt G' C z rt et) ∧ GoodH rt et ∧ (∀ r ∈ rt, nameOk r = true) ∧ (decide (rs' = rt) && decide (ds = et)) = false ∧ (decide (rt = rs') && decide (et = ds)) = false
    have oth2 : Oth K7 x2 := ⟨rs4, ds4, fun G' hG => house_off (fun b o e => hG b o (outH e) (gK7.s _ _ e)) hx2, gd4, okr4, by rw [decide_eq_false ne4]; rfl, by rw [decide_eq_false fun z => ne4 z.symm]; rfl⟩
    refine ⟨fun σ' H' => ∃ (v7 v8 v9 : Option V) (os : List Addr), σ' = [some (.ref a), some (.ref h), some (.ref p), some (.ref q), some (.ref D), some (.ref x), some (.ref OL), v7, v8, v9, none, none, none, none, none, none] ∧ H' OL = some (.lst (os.map V.ref)) ∧ os.length ≤ 2 ∧ (∀ z ∈ os, Oth H' z) ∧ (∀ b o, b ≠ OL → K7 b = some o → H' b = some o), ?_, ?_⟩
    · refine ⟨_, rfl, p, _, rfl, .inl (SqL.of td17.hp), _, _, rfl, rfl, _, rfl, ?_⟩
      have l0 : (rs.map V.str).length = rs.length := List.length_map _
      have start : ∀ z ∈ [x2], Oth K7 z := fun z hz => by
        rw [List.mem_singleton.mp hz]
        exact oth2
      by_cases l3 : 2 < rs.length
      case neg => exact iteF2 (decide_eq_false (by rw [l0]; omega)) ⟨_, _, _, [x2], rfl, eOL, (by show 1 ≤ 2; decide), start, fun b o _ e => e⟩
      refine iteT2 (decide_eq_true (by rw [l0]; omega)) ?_
      obtain ⟨lf0, ml0, dg0⟩ := leaf_there td.gd td.gd' td.pm td.nr td.rn lee (by omega)
      refine ⟨_, rfl, p, rfl, ⟨_, SqL.of td17.hp⟩, fun D3 hD3 => ?_⟩
      refine lc_it (walk_list (xs := rs.map V.str)) (fun j H' => H' D3 = some (.lst (((rs.take j).filter fun r => decide ((outs r es ++ ins_ r es).length = 1)).map V.str)) ∧ Gr K7 H') ⟨upd_same, Gr.upd hD3⟩ (fun j H' _ q => SqL.of (q.2.s _ _ td17.hp)) ?_ ?_
      · rintro j v H' H'' hj ⟨c1, c2⟩ ⟨rfl, hv⟩
        rw [List.getElem?_map] at hv
        obtain ⟨r, er, rfl⟩ := Option.map_eq_some_iff.mp hv
        have tdm := td17.extN c2.extN
        refine ⟨rfl, _, rfl, _, rfl, q, r, ts, es, rfl, tdm.hq, tdm.ht, les, fun M pp ys py sy ly gm np ep => ?_⟩
        refine ⟨pp, _, rfl, .inl (SqL.of ep), rfl, _, rfl, ?_⟩
        have tk : rs.take (j + 1) = rs.take j ++ [r] := by
          rw [List.take_add_one, er]
          rfl
        have cM := gm.s _ _ c1
        have lj : ((rs.take j).filter fun r => decide ((outs r es ++ ins_ r es).length = 1)).length ≤ 12 := Nat.le_trans (List.length_filter_le _ _) (by rw [List.length_take]; omega)
        by_cases cc : (outs r es ++ ins_ r es).length = 1
        · refine iteT2 (decide_eq_true (by rw [List.length_map, py.length_eq, cc]; rfl)) ⟨_, rfl, _, cM, ?_, ?_, (c2.trans gm).put hD3⟩
          · rw [List.length_map]
            exact Nat.lt_of_le_of_lt lj (by decide)
          · rw [upd_same, tk, List.filter_append, List.filter_cons, decide_eq_true cc, List.map_append]
            rfl
        · refine iteF2 (decide_eq_false fun z => cc (by have := V.int.inj z; rw [List.length_map, py.length_eq] at this; omega)) ⟨?_, c2.trans gm⟩
          rw [tk, List.filter_append, List.filter_cons, decide_eq_false cc]
          show M D3 = some (.lst ((_ ++ []).map V.str))
          rw [List.append_nil]
          exact cM
      rintro K8 ⟨c1, c2⟩
      rw [l0, List.take_length] at c1
      obtain ⟨lf, lft, elf⟩ : ∃ lf lft, (rs.filter fun r => decide ((outs r es ++ ins_ r es).length = 1)) = lf :: lft := by
        cases e : rs.filter fun r => decide ((outs r es ++ ins_ r es).length = 1) with
        | cons y ys => exact ⟨y, ys, rfl⟩
        | nil => exact absurd (decide_eq_true dg0) (List.filter_eq_nil_iff.mp e lf0 ml0)
      have mlf := List.mem_filter.mp (show lf ∈ rs.filter fun r => decide ((outs r es ++ ins_ r es).length = 1) by rw [elf]; exact List.mem_cons_self)
      have mf := mlf.1
      have dg := of_decide_eq_true mlf.2
      rw [elf] at c1
      have td18 := td17.extN c2.extN
      refine ⟨D3, _, 0, .str lf, rfl, rfl, SqL.of c1, atI_nat (j := 0) rfl, ?_⟩
      -- kept
      refine ⟨_, rfl, q, rfl, ⟨_, SqL.of td18.hq⟩, fun D4 hD4 => ?_⟩
      refine lc_it (walk_list (xs := ts.map V.ref)) (fun j H' => ∃ ks : List Addr, H' D4 = some (.lst (ks.map V.ref)) ∧ TupsAt H' ks (keptE lf (es.take j)) ∧ Gr K8 H') ⟨[], upd_same, .nil, Gr.upd hD4⟩ (fun j H' _ ⟨ks, w1, w2, w3⟩ => SqL.of (w3.s _ _ td18.hq)) ?_ ?_
      · rintro j v H' H'' hj ⟨ks, w1, w2, w3⟩ ⟨rfl, hv⟩
        rw [List.getElem?_map] at hv
        obtain ⟨t, et, rfl⟩ := Option.map_eq_some_iff.mp hv
        obtain ⟨e, ee, te⟩ := paired_at td18.ht et
        have te' := w3.s _ _ te
        have tk : keptE lf (es.take (j + 1)) = keptE lf (es.take j) ++ keptE lf [e] := by
          unfold keptE
          rw [List.take_add_one, ee, List.filter_append]
          rfl
        have iv : inV (.str lf) [.str e.1, .str e.2] = (decide (e.1 = lf) || decide (e.2 = lf)) := inV_two lf e.1 e.2
        refine ⟨rfl, _, rfl, _, rfl, t, _, rfl, .inr (SqT.of te'), rfl, rfl, _, rfl, ?_⟩
        rw [iv]
        cases cc : (decide (e.1 = lf) || decide (e.2 = lf)) with
        | true =>
          refine iteF2 (by rfl) ⟨ks, w1, ?_, w3⟩
          rw [tk, show keptE lf [e] = [] by unfold keptE; rw [List.filter_cons, cc]; rfl, List.append_nil]
          exact w2
        | false =>
          refine iteT2 (by rfl) ⟨_, rfl, _, w1, ?_, ks ++ [t], ?_, ?_, w3.put hD4⟩
          · rw [List.length_map, paired_len w2]
            exact Nat.lt_of_le_of_lt (Nat.le_trans (List.length_filter_le _ _) (by rw [List.length_take]; exact Nat.min_le_right _ _)) (Nat.lt_trans les (by decide))
          · rw [upd_same, List.map_append]
            rfl
          · rw [tk, show keptE lf [e] = [e] by unfold keptE; rw [List.filter_cons, cc]; rfl]
            refine tups_putD (paired_snoc (R := fun (t : Addr) (e : Ed) => H'' t = some (.tup [.str e.1, .str e.2])) te' w2) w1
      rintro K9 ⟨ks, w1, w2, w3⟩
      rw [List.length_map, lts, List.take_length] at w2
      have td19 := td18.extN w3.extN
      -- far
      refine ⟨_, rfl, p, rfl, ⟨_, SqL.of td19.hp⟩, fun D5 hD5 => ?_⟩
      refine lc_it (walk_list (xs := rs.map V.str)) (fun j H' => H' D5 = some (.lst (((rs.take j).filter fun r => !decide (r = lf) && !decide (r ∈ outs lf es ++ ins_ lf es)).map V.str)) ∧ Gr K9 H') ⟨upd_same, Gr.upd hD5⟩ (fun j H' _ q => SqL.of (q.2.s _ _ td19.hp)) ?_ ?_
      · rintro j v H' H'' hj ⟨f1, f2⟩ ⟨rfl, hv⟩
        rw [List.getElem?_map] at hv
        obtain ⟨r, er, rfl⟩ := Option.map_eq_some_iff.mp hv
        have tdm := td19.extN f2.extN
        have tk : rs.take (j + 1) = rs.take j ++ [r] := by
          rw [List.take_add_one, er]
          rfl
        have lj : ((rs.take j).filter fun r => !decide (r = lf) && !decide (r ∈ outs lf es ++ ins_ lf es)).length ≤ 12 := Nat.le_trans (List.length_filter_le _ _) (by rw [List.length_take]; omega)
        refine ⟨rfl, _, rfl, _, rfl, rfl, _, rfl, ?_⟩
        by_cases c1 : r = lf
        · refine iteF2 (by rw [decide_eq_true (by rw [c1])]; rfl) ⟨?_, f2⟩
          rw [tk, List.filter_append, List.filter_cons, decide_eq_true c1]
          show H'' D5 = some (.lst ((_ ++ []).map V.str))
          rw [List.append_nil]
          exact f1
        refine iteT2 (by rw [decide_eq_false fun z => c1 (V.str.inj z)]; rfl) ?_
        refine ⟨_, rfl, _, rfl, _, rfl, q, lf, ts, es, rfl, tdm.hq, tdm.ht, les, fun M pp ys py sy ly gm np ep => ?_⟩
        refine ⟨pp, _, rfl, .inl (SqL.of ep), rfl, ?_, _, rfl, ?_⟩
        · exact List.all_eq_true.mpr fun y hy => by
            obtain ⟨z, _, rfl⟩ := List.mem_map.mp hy
            rfl
        have fM := gm.s _ _ f1
        rw [show inV (.str r) (ys.map V.str) = decide (r ∈ outs lf es ++ ins_ lf es) by rw [inv_strs]; exact decide_eq_decide.mpr py.mem_iff]
        cases cc : decide (r ∈ outs lf es ++ ins_ lf es) with
        | true =>
          refine iteF2 (by rfl) ⟨?_, f2.trans gm⟩
          rw [tk, List.filter_append, List.filter_cons, decide_eq_false c1, cc]
          show M D5 = some (.lst ((_ ++ []).map V.str))
          rw [List.append_nil]
          exact fM
        | false =>
          refine iteT2 (by rfl) ⟨_, rfl, _, fM, ?_, ?_, (f2.trans gm).put hD5⟩
          · rw [List.length_map]
            exact Nat.lt_of_le_of_lt lj (by decide)
          · rw [upd_same, tk, List.filter_append, List.filter_cons, decide_eq_false c1, cc, List.map_append]
            rfl
      rintro K10 ⟨f1, f2⟩
      rw [l0, List.take_length] at f1
      obtain ⟨nb, enb⟩ := List.length_eq_one_iff.mp dg
      obtain ⟨far, fart, efar⟩ : ∃ far fart, (rs.filter fun r => !decide (r = lf) && !decide (r ∈ outs lf es ++ ins_ lf es)) = far :: fart := by
        cases e : rs.filter fun r => !decide (r = lf) && !decide (r ∈ outs lf es ++ ins_ lf es) with
        | cons y ys => exact ⟨y, ys, rfl⟩
        | nil =>
          have sub : ∀ r ∈ rs, r ∈ [lf, nb] := fun r hr => by
            have z := List.filter_eq_nil_iff.mp e r hr
            rw [enb] at z
            simp only [List.mem_cons, List.not_mem_nil, or_false] at z ⊢
            by_cases c1 : r = lf
            · exact .inl c1
            · by_cases c2 : r = nb
              · exact .inr c2
              · simp [c1, c2] at z
          have := two_len td.gd.nodup sub
          omega
      have mfar := List.mem_filter.mp (show far ∈ rs.filter fun r => !decide (r = lf) && !decide (r ∈ outs lf es ++ ins_ lf es) by rw [efar]; exact List.mem_cons_self)
      have mfr := mfar.1
      have nfar : far ≠ lf ∧ far ∉ outs lf es ++ ins_ lf es := by
        have z := mfar.2
        rw [Bool.and_eq_true, Bool.not_eq_true', Bool.not_eq_true', decide_eq_false_iff_not, decide_eq_false_iff_not] at z
        exact z
      rw [efar] at f1
      have td20 := td19.extN f2.extN
      refine ⟨D5, _, 0, .str far, rfl, rfl, SqL.of f1, atI_nat (j := 0) rfl, ?_⟩
      -- the house with a door elsewhere
      have gE := (c2.trans w3).trans f2
      have eOLE := gE.s _ _ eOL
      have eD4E := f2.s _ _ w1
      have tkE := tups_up w2 f2.s
      refine ⟨_, rfl, .inl ⟨rfl, _, SqL.of eOLE⟩, _, rfl, _, rfl, _, rfl, _, rfl, (by show 2 ≤ sizeLine; decide), fun y1 ny1 => ?_⟩
      have gL1 : Gr K10 (upd K10 y1 (.tup [.str lf, .str far])) := Gr.upd ny1
      have ey1 : upd K10 y1 (.tup [.str lf, .str far]) y1 = some (.tup [.str lf, .str far]) := upd_same
      generalize upd K10 y1 (.tup [.str lf, .str far]) = L1 at gL1 ey1 ⊢
      refine ⟨(by show 1 ≤ sizeLine; decide), fun y2 ny2 => ?_⟩
      have gL2 : Gr L1 (upd L1 y2 (.lst [.ref y1])) := Gr.upd ny2
      have ey2 : upd L1 y2 (.lst [.ref y1]) y2 = some (.lst [.ref y1]) := upd_same
      generalize upd L1 y2 (.lst [.ref y1]) = L2 at gL2 ey2 ⊢
      have lkk := paired_len w2
      have lke : (keptE lf es).length ≤ es.length := List.length_filter_le _ _
      refine ⟨D4, y2, _, _, rfl, rfl, (gL1.trans gL2).s _ _ eD4E, ey2, (by rw [List.length_map, lkk]; exact Nat.le_trans (show (keptE lf es).length + 1 ≤ 100 by omega) (by decide)), fun y3 ny3 => ?_⟩
      rw [show ks.map V.ref ++ [V.ref y1] = (ks ++ [y1]).map V.ref by rw [List.map_append]; rfl]
      have gL3 : Gr L2 (upd L2 y3 (.lst ((ks ++ [y1]).map V.ref))) := Gr.upd ny3
      have ey3 : upd L2 y3 (.lst ((ks ++ [y1]).map V.ref)) y3 = some (.lst ((ks ++ [y1]).map V.ref)) := upd_same
      generalize upd L2 y3 (.lst ((ks ++ [y1]).map V.ref)) = L3 at gL3 ey3 ⊢
      intro x3 dx3 nx3 ndx3 nex3
      have g13 := (gL1.trans gL2).trans gL3
      have t0 := made_same (C := C) nx3 ndx3
      have gl5 : GoodH rs (keptE lf es ++ [(lf, far)]) := td.gd.unleaf mf dg mfr nfar.1
      have hp3 := t0 _ _ (g13.s _ _ td20.hp)
      have ey3' := t0 _ _ ey3
      have tp3 : TupsAt L3 (ks ++ [y1]) (keptE lf es ++ [(lf, far)]) := paired_snoc (R := fun (t : Addr) (e : Ed) => L3 t = some (.tup [.str e.1, .str e.2])) (a := y1) (b := (lf, far)) ((gL2.trans gL3).s _ _ ey1) (tups_up tkE g13.s)
      refine ⟨x3, dx3, p, y3, rs, keptE lf es ++ [(lf, far)], rfl, upd_same, .inl ⟨SqL.of hp3, fun H' s => .base (.lst (s _ _ hp3))⟩, ⟨_, .inl ⟨SqL.of ey3', fun H' s => .base (.lst (s _ _ ey3'))⟩, doors_refs (tups_up tp3 t0) gl5.ends⟩, gl5, ok, fun L4 rs5 ds5 pm5 so5 gd5 nr5 asc5 rn5 own5 gx5 => ⟨rfl, ?_⟩⟩
      have s34 : Same L3 L4 := made_gx nx3 ndx3 gx5
      have sE : Same K7 L4 := (gE.s.trans g13.s).trans s34
      have eOL4 := sE _ _ eOL
      have hx3 : HouseAt L4 C x3 rs5 ds5 := own5.at_
      have ned : ds ≠ ds5 := fun z => by
        have h1 : far ∉ nearOf ds lf := fun m => nfar.2 (by
          rcases (near_iffB td.gd td.gd' td.pm td.nr td.rn lf far).mp m with h | h
          · exact List.mem_append_left _ (List.mem_filterMap.mpr ⟨_, h, if_pos rfl⟩)
          · exact List.mem_append_right _ (List.mem_filterMap.mpr ⟨_, h, if_pos rfl⟩))
        have h2 := (near_iffB gl5 gd5 pm5 nr5 rn5 lf far).mpr (.inl (List.mem_append_right _ (List.mem_singleton.mpr rfl)))
        rw [← z] at h2
        exact h1 h2
      refine ⟨OL, _, .ref x3, rfl, rfl, eOL4, (by show 1 < sizeLine; decide), ?_⟩
      refine ⟨_, _, _, [x2, x3], rfl, upd_same, (by show 2 ≤ 2; decide), fun z hz => ?_, fun b o n e => ?_⟩
      · rcases List.mem_cons.mp hz with rfl | hz
        · obtain ⟨rt, et, o1, o2⟩ := oth2
          exact ⟨rt, et, fun G' hG => o1 G' fun b o n e => hG b o n (by rw [upd_ne n]; exact sE _ _ e), o2⟩
        · rw [List.mem_singleton.mp hz]
          have nOLb : ∀ b : Addr, (upd (upd L3 dx3 (.own x3)) x3 (.ins C dx3 []) b = none ∨ b = x3) → b ≠ OL := fun b nb z => by
            rcases nb with nb | nb
            · rw [z, t0 _ _ (g13.s _ _ eOLE)] at nb
              cases nb
            · rw [← z, nb] at eOL4
              obtain ⟨_, _, _, _, _, q, _⟩ := hx3.at_
              rw [q] at eOL4
              cases eOL4
          refine ⟨rs5, ds5, fun G' hG => own5 G' fun b o nb e => ?_, gd5, fun r hr => ok r (pm5.mem_iff.mp hr), by rw [show decide (ds = ds5) = false from decide_eq_false ned, Bool.and_false], by rw [show decide (ds5 = ds) = false from decide_eq_false fun z => ned z.symm, Bool.and_false]⟩
          have nb' := nOLb b nb
          exact hG b o nb' (by rw [upd_ne nb']; exact e)
      · rw [upd_ne n]
        exact sE _ _ e
    rintro σ' H11 ⟨v7, v8, v9, os, rfl, eOL', los, all, keep⟩
    have s1011 : Same H10 H11 := fun b o e => keep b o (outH ((g105.s.trans s56) _ _ e)) (s107 _ _ e)
    have hh11 := td10.hh.same s1011
    refine ⟨_, rfl, OL, rfl, ⟨_, SqL.of eOL'⟩, fun D6 hD6 => ?_⟩
    refine lc_it (walk_list (xs := os.map V.ref)) (fun j H' => H' D6 = some (.lst ((List.replicate j false).map V.bl)) ∧ Same H11 H') ⟨upd_same, same_upd hD6⟩ (fun j H' _ q => SqL.of (q.2 _ _ eOL')) ?_ ?_
    · rintro j v H' H'' hj ⟨v1, v2'⟩ ⟨rfl, hv⟩
      rw [List.getElem?_map] at hv
      obtain ⟨z, ez, rfl⟩ := Option.map_eq_some_iff.mp hv
      obtain ⟨rt, et, o1, og, ook, b1, b2⟩ := all z (List.mem_of_getElem? ez)
      have hz := o1 H'' fun b o _ e => v2' b o e
      have hhm := hh11.same v2'
      refine ⟨rfl, _, rfl, _, rfl, rq_house ET hhm hz td.gd' og ok' ook fun M s' => ⟨_, rfl, iteF2 b1 ?_⟩⟩
      refine ⟨_, rfl, _, rfl, rq_house ET (hz.same s') (hhm.same s') og td.gd' ook ok' fun M2 s2' => ?_⟩
      rw [b2]
      have vD := s2' _ _ (s' _ _ v1)
      refine ⟨_, vD, ?_, ?_, fun b o e => ?_⟩
      · rw [List.length_map] at hj
        rw [List.length_map, List.length_replicate]
        exact Nat.lt_of_lt_of_le (Nat.lt_of_lt_of_le hj los) (by decide)
      · rw [upd_same, List.replicate_succ', List.map_append]
        rfl
      · rw [upd_ne (ne_of_none e hD6)]
        exact s2' _ _ (s' _ _ (v2' _ _ e))
    rintro H12 ⟨v1, v2'⟩
    refine ⟨D6, List.replicate (os.map V.ref).length false, rfl, .inl (.inl v1), _, rfl, ?_⟩
    rw [show (!(List.replicate (os.map V.ref).length false).any id) = true by
      rw [List.any_replicate]
      split <;> rfl]
    have s1012 : Same H10 H12 := s1011.trans v2'
    have s412 : Same H4 H12 := s410.trans s1012
    exact k H12 _ (by omega) (sb4.trans (Same.sb s412)) (s4.stay s412)
end
end Lamp
set_option maxHeartbeats 4000000
namespace Lamp
open PySem PySem.Spec PyProof.Rows L2
/-! ### min, max of a tuple of texts -/
theorem iter_tupM {prog : Program} {w : World} {A : Around} {E : Value → Shared → Prop} {s : Shared} {l : Addr} {items : Array Value} {Q : Value → Shared → Prop} (hl : s.heap.IsTuple l items)
    (h : ∀ s₂ : Shared, s₂ = { s with heap := s.heap.push { cls := .type "tuple_iterator", data := .fields #[.ref l, .int 0 0] } } →
      (s₂.heap.IsTupleIter s.heap.objs.size l 0 ∧ s₂.heap.IsTuple l items) → l ≠ s.heap.objs.size → Q (.ref s.heap.objs.size) s₂) : wpAny (model prog w) A (pyIter (.ref l)) Q E s := by
  have hlt : l < s.heap.objs.size := by obtain ⟨_, e, _⟩ := hl; exact Heap.lt_size e
  exact wpAny_pyIter_tuple hl (h _ rfl ⟨⟨_, Heap.get?_push_size _ rfl, rfl, rfl⟩, hl.push _⟩ (Nat.ne_of_lt hlt))
def rMinT (K : PySem.W.Frag) : List V → Hp → VK → Prop := fun vs H Q => ∃ (a : Addr) (xs : List Str), vs = [.ref a] ∧ SqT K H a (xs.map V.str) ∧ xs ≠ [] ∧ ∀ m ∈ xs, (∀ y ∈ xs, ltS y m = false) → Q (.str m) H
def rMaxT (K : PySem.W.Frag) : List V → Hp → VK → Prop := fun vs H Q => ∃ (a : Addr) (xs : List Str), vs = [.ref a] ∧ SqT K H a (xs.map V.str) ∧ xs ≠ [] ∧ ∀ m ∈ xs, (∀ y ∈ xs, ltS m y = false) → Q (.str m) H
theorem cr_minT {X : Cx} (hc : X.calm = true) : CallR X (.builtin "min") (rMinT X.K) := by
  intro pins s σ H vs us Q I r h
  obtain ⟨a, xs, rfl, hs, ne, q⟩ := h
  obtain ⟨its, rv, hl, _⟩ := I.tuple hs
  rw [Vals.ref1 r]
  have hlen : its.length = xs.length := by
    have z := rv.length
    rw [List.length_map] at z
    exact z.symm
  have hlt : a < s.heap.objs.size := by
    obtain ⟨_, e, _⟩ := hl
    exact Heap.lt_size e
  refine call_min_walk (iter_tupM hl fun s₂ e2 st hn => ?_)
  subst e2
  have pos : 0 < its.toArray.size := by
    rw [List.size_toArray, hlen]
    exact List.length_pos_iff.mpr ne
  let m : Str := xs.head ne
  let bt : Nat → Nat → Bool := fun i j => ltS (xs.getD i m) (xs.getD j m)
  have best : ∀ k i, i ≤ k → ltS (xs.getD i m) (xs.getD (argBest bt k) m) = false := by
    intro k
    induction k with
    | zero =>
      intro i hi
      obtain rfl : i = 0 := by omega
      exact ltS_irr _
    | succ k ih =>
      intro i hi
      show ltS (xs.getD i m) (xs.getD (if bt (k + 1) (argBest bt k) then k + 1 else argBest bt k) m) = false
      cases c : bt (k + 1) (argBest bt k) with
      | false =>
        rw [if_neg (by decide)]
        by_cases e : i = k + 1
        · rw [e]
          exact c
        · exact ih i (by omega)
      | true =>
        rw [if_pos rfl]
        by_cases e : i = k + 1
        · rw [e]
          exact ltS_irr _
        · have h1 := ih i (by omega)
          cases c2 : ltS (xs.getD i m) (xs.getD (k + 1) m) with
          | false => rfl
          | true =>
            have h2 := ltS_tr c2 (show ltS (xs.getD (k + 1) m) (xs.getD (argBest bt k) m) = true from c)
            rw [h1] at h2
            cases h2
  refine ⟨_, _, _, _, _, _, bt, rfl, Walks.tuple (A := X.A.in1) (I.ok.hd hc) _ a hn its.toArray, st, fun b hb => ?_, pos, fun i j vi vj s' Q' E' hi hj hq => ?_, fun v h' tk hP hk => ?_⟩
  · have sz : (s.heap.push { cls := .type "tuple_iterator", data := .fields #[.ref a, .int 0 0] }).objs.size = s.heap.objs.size + 1 := by
      show (s.heap.objs.push _).size = _
      rw [Array.size_push]
    show b < (s.heap.push { cls := .type "tuple_iterator", data := .fields #[.ref a, .int 0 0] }).objs.size
    rw [sz]
    rcases List.mem_cons.mp hb with e | hb
    · rw [e]
      exact Nat.lt_succ_self _
    · rw [List.mem_singleton.mp hb]
      exact Nat.lt_succ_of_lt hlt
  · obtain ⟨x, t, hx, rfl⟩ := vals_strs rv (i := i) (v := vi) (by simpa using hi)
    obtain ⟨y, u, hy, rfl⟩ := vals_strs rv (i := j) (v := vj) (by simpa using hj)
    replace hq : Q' (.bool (ltS (xs.getD i m) (xs.getD j m))) s' := hq
    rw [List.getD_eq_getElem?_getD, List.getD_eq_getElem?_getD, hx, hy] at hq
    exact PyProof.Rows.lt_str hq
  · obtain ⟨x, t, hx, rfl⟩ := vals_strs rv (v := v) (by simpa using hP)
    have mx := List.mem_of_getElem? hx
    have lst : ∀ y ∈ xs, ltS y x = false := fun y hy => by
      obtain ⟨i, hi, ei⟩ := List.getElem_of_mem hy
      have z := best (its.length - 1) i (by rw [hlen]; omega)
      rw [List.getD_eq_getElem?_getD, List.getD_eq_getElem?_getD, hx, List.getElem?_eq_getElem hi, ei] at z
      exact z
    replace q := q x mx lst
    refine ⟨.str x, H, I.kept fun b o eo => hk b o (fun hmem => ?_) (Heap.get?_push_of_some _ eo), ⟨t, rfl⟩, q⟩
    rcases List.mem_cons.mp hmem with e1 | hmem
    · exact absurd (e1 ▸ Heap.lt_size eo) (Nat.lt_irrefl _)
    · cases hmem
theorem cr_maxT {X : Cx} (hc : X.calm = true) : CallR X (.builtin "max") (rMaxT X.K) := by
  intro pins s σ H vs us Q I r h
  obtain ⟨a, xs, rfl, hs, ne, q⟩ := h
  obtain ⟨its, rv, hl, _⟩ := I.tuple hs
  rw [Vals.ref1 r]
  have hlen : its.length = xs.length := by
    have z := rv.length
    rw [List.length_map] at z
    exact z.symm
  have hlt : a < s.heap.objs.size := by
    obtain ⟨_, e, _⟩ := hl
    exact Heap.lt_size e
  refine call_max_walk (iter_tupM hl fun s₂ e2 st hn => ?_)
  subst e2
  have pos : 0 < its.toArray.size := by
    rw [List.size_toArray, hlen]
    exact List.length_pos_iff.mpr ne
  let m : Str := xs.head ne
  let bt : Nat → Nat → Bool := fun i j => ltS (xs.getD j m) (xs.getD i m)
  have best : ∀ k i, i ≤ k → ltS (xs.getD (argBest bt k) m) (xs.getD i m) = false := by
    intro k
    induction k with
    | zero =>
      intro i hi
      obtain rfl : i = 0 := by omega
      exact ltS_irr _
    | succ k ih =>
      intro i hi
      show ltS (xs.getD (if bt (k + 1) (argBest bt k) then k + 1 else argBest bt k) m) (xs.getD i m) = false
      cases c : bt (k + 1) (argBest bt k) with
      | false =>
        rw [if_neg (by decide)]
        by_cases e : i = k + 1
        · rw [e]
          exact c
        · exact ih i (by omega)
      | true =>
        rw [if_pos rfl]
        by_cases e : i = k + 1
        · rw [e]
          exact ltS_irr _
        · have h1 := ih i (by omega)
          cases c2 : ltS (xs.getD (k + 1) m) (xs.getD i m) with
          | false => rfl
          | true =>
            have h2 := ltS_tr (show ltS (xs.getD (argBest bt k) m) (xs.getD (k + 1) m) = true from c) c2
            rw [h1] at h2
            cases h2
  refine ⟨_, _, _, _, _, _, bt, rfl, Walks.tuple (A := X.A.in1) (I.ok.hd hc) _ a hn its.toArray, st, fun b hb => ?_, pos, fun i j vi vj s' Q' E' hi hj hq => ?_, fun v h' tk hP hk => ?_⟩
  · have sz : (s.heap.push { cls := .type "tuple_iterator", data := .fields #[.ref a, .int 0 0] }).objs.size = s.heap.objs.size + 1 := by
      show (s.heap.objs.push _).size = _
      rw [Array.size_push]
    show b < (s.heap.push { cls := .type "tuple_iterator", data := .fields #[.ref a, .int 0 0] }).objs.size
    rw [sz]
    rcases List.mem_cons.mp hb with e | hb
    · rw [e]
      exact Nat.lt_succ_self _
    · rw [List.mem_singleton.mp hb]
      exact Nat.lt_succ_of_lt hlt
  · obtain ⟨x, t, hx, rfl⟩ := vals_strs rv (i := i) (v := vi) (by simpa using hi)
    obtain ⟨y, u, hy, rfl⟩ := vals_strs rv (i := j) (v := vj) (by simpa using hj)
    replace hq : Q' (.bool (ltS (xs.getD j m) (xs.getD i m))) s' := hq
    rw [List.getD_eq_getElem?_getD, List.getD_eq_getElem?_getD, hx, hy] at hq
    exact PySem.P.gt_str hq
  · obtain ⟨x, t, hx, rfl⟩ := vals_strs rv (v := v) (by simpa using hP)
    have mx := List.mem_of_getElem? hx
    have lst : ∀ y ∈ xs, ltS x y = false := fun y hy => by
      obtain ⟨i, hi, ei⟩ := List.getElem_of_mem hy
      have z := best (its.length - 1) i (by rw [hlen]; omega)
      rw [List.getD_eq_getElem?_getD, List.getD_eq_getElem?_getD, hx, List.getElem?_eq_getElem hi, ei] at z
      exact z
    replace q := q x mx lst
    refine ⟨.str x, H, I.kept fun b o eo => hk b o (fun hmem => ?_) (Heap.get?_push_of_some _ eo), ⟨t, rfl⟩, q⟩
    rcases List.mem_cons.mp hmem with e1 | hmem
    · exact absurd (e1 ▸ Heap.lt_size eo) (Nat.lt_irrefl _)
    · cases hmem
end Lamp
set_option maxHeartbeats 8000000
namespace Lamp
open PySem PySem.Spec PyProof.Rows L2
/-! ### _law_draw of greater numbers -/
def spDrawW : Sp := fun vs H Q _ => ∃ (a l : Addr) (n : Nat) (m : Int), vs = [.ref a, .int m] ∧ Spr H a l n ∧ n ≤ 1000000 ∧ 1 ≤ m ∧ m < 1073741824 ∧
  ∀ H' d, Sb a l H H' → Spr H' a l (n + 1) → 0 ≤ d → d < m → Q (.int d) H'
section
variable {P : Program} {w : World} {K : PySem.W.Frag} {mg : Str → Option Value} {base : Heap}
theorem ok_drawW {f : Addr} {fd : FuncData} (F : Fun K "_law_draw" "_law_draw" sDraw f fd) (T : TxtS mg) : FnOk P w K mg base CX0 1 f fd ["stream", "many"] spDrawW := by
  refine F.ok scD (fun vs H Q E h => ?_) (fun cdv A outer s H vs Q E hr h => ?_)
  · obtain ⟨a, l, n, m, rfl, _⟩ := h
    rfl
  · obtain ⟨a, l, n, m, rfl, hS, hn, hm, hm2, k⟩ := h
    refine ⟨_, pss_cons (ps_asg (pe_op op_add (pe_ix ix_list (pv 0) pe_int (fun _ _ => rfl)) pe_int) (pg_sub (pv 0) pe_int set_list))
      (pss_cons (ps_while PassesOwn.never (PW.pt (pw_and (pt_cmpR op_eq (pe_ix ix_list (pv 0) pe_int (fun _ _ => rfl)) pe_int (nomark _)) (pw_and1 (pt_cmpR (op_neD hr.units) (pe_ix ix_list (pv 0) pe_int (fun _ _ => rfl)) (pe_lst pa_nil) (nomark _)))))
        (pss_cons (ps_set (i := 2) scD.nd rfl (Or.inl rfl) (pe_bm PySem.F.plainAttrs_list PySem.F.slot_list_pop PySem.F.type_list_pop mt_popAt (pe_ix ix_list (pv 0) pe_int (fun _ _ => rfl)) (pa_cons pe_int pa_nil)))
        (pss_cons (ps_asg (pe_op op_modN (pe_callTy call_int1 (by rfl) T.int (by decide +kernel) (pa_cons (pe_op op_add (pe_op op_add (pe_op op_mul (pe_ix ix_list (pv 0) pe_int (fun _ _ => rfl)) pe_int) (pv 2)) pe_int) pa_nil)) pe_int) (pg_sub (pv 0) pe_int set_list))
        (pss_one (ps_asg (pe_ifExp (pt_cmpR op_ge (pv 2) (pe_op op_pow pe_int pe_int) (nomark _)) (pv 2) pe_int) (pg_sub (pv 0) pe_int set_list))))))
      (pss_cons (ps_if (pt_cmpR op_gt (pe_ix ix_list (pv 0) pe_int (fun _ _ => rfl)) pe_int (nomark _))
        (pss_cons (ps_set (i := 3) scD.nd rfl (Or.inl rfl) (pe_op op_modN (pe_callTy call_int1 (by rfl) T.int (by decide +kernel) (pa_cons (pe_ix ix_list (pv 0) pe_int (fun _ _ => rfl)) pa_nil)) (pv 1)))
        (pss_cons (ps_asg (pe_op op_fdivN (pe_ix ix_list (pv 0) pe_int (fun _ _ => rfl)) (pv 1)) (pg_sub (pv 0) pe_int set_list))
        (pss_one (ps_ret (pv 3))))) pss_nil)
      (pss_cons (ps_set (i := 4) scD.nd rfl (Or.inl rfl) (pe_op op_modN (pe_callTy call_int1 (by rfl) T.int (by decide +kernel) (pa_cons (pe_op op_pow (pe_op op_add (pe_op op_add (pe_ix ix_list (pv 0) pe_int (fun _ _ => rfl)) (pe_op op_mul pe_int (pe_ix ix_list (pv 0) pe_int (fun _ _ => rfl)))) pe_int) pe_int) pa_nil)) pe_int))
      (pss_one (ps_ret (pe_op op_modN (pe_op op_modN (pe_callTy call_int1 (by rfl) T.int (by decide +kernel) (pa_cons (pe_op op_pow (pe_op op_add (pe_op op_add (pe_op op_mul (pv 4) pe_int) (pe_op op_mul pe_int (pe_ix ix_list (pv 0) pe_int (fun _ _ => rfl)))) pe_int) pe_int) pa_nil)) pe_int) (pv 1))))))), ?_⟩
    obtain ⟨ne, cs, cur, mix, h1, h2, h3, h4⟩ := hS
    refine ⟨_, rfl, a, _, 2, .int (n : Int), rfl, rfl, SqL.of h1, rfl, _, _, rfl, rfl, ?_⟩
    refine ⟨_, rfl, a, _, 2, 2, rfl, rfl, h1, rfl, ?_⟩
    refine while_ex (fun σ' H' => ∃ (cs' : List Int) (cur' mix' : Int) (v2 : Option V), σ' = [some (.ref a), some (.int m), v2, none, none] ∧ H' a = some (.lst [.ref l, .int cur', .int ((n : Int) + 1), .int mix']) ∧ H' l = some (.lst (cs'.map V.int)) ∧ 0 ≤ mix' ∧ mix' < 2147483647 ∧ Sb a l H H') ?_ (fun fin => ?_)
    · rintro σ' H' ⟨cs', cur', mix', v2, rfl, g1, g2, g3, g4, gS⟩
      have q0 : ∀ {i : Int}, 0 < i → i ≠ 0 := fun h z => by omega
      refine ⟨_, rfl, a, _, 1, .int cur', rfl, rfl, SqL.of g1, rfl, _, _, rfl, rfl, _, rfl, ?_⟩
      refine ite2 (fun _ => ?_) (fun _ => ?_)
      · refine ⟨_, rfl, a, _, 1, .int cur', rfl, rfl, SqL.of g1, rfl, .inl ⟨_, rfl, _, rfl, _, _, rfl, rfl, q0 (by omega), ?_⟩⟩
        refine ⟨_, rfl, a, _, 1, .int cur', rfl, rfl, SqL.of g1, rfl, _, rfl, _, _, rfl, rfl, ⟨q0 (by omega), by omega⟩, ?_⟩
        refine ⟨_, rfl, a, _, 1, 1, rfl, rfl, g1, rfl, _, rfl, ?_⟩
        exact k _ _ (fun b o e x y => by rw [upd_ne x]; exact gS b o e x y) ⟨ne, cs', _, mix', upd_same, by rw [upd_ne ne.symm]; exact g2, g3, g4⟩ (Int.fmod_nonneg_of_pos _ (by omega)) (Int.fmod_lt_of_pos _ (by omega))
      · have b1 : (0 : Int) ≤ mix' + 7919 * ((n : Int) + 1) + 104729 := by omega
        have b2 : mix' + 7919 * ((n : Int) + 1) + 104729 < 2 ^ 40 := by omega
        refine ⟨_, rfl, a, _, 3, .int mix', rfl, rfl, SqL.of g1, rfl, _, rfl, a, _, 2, .int ((n : Int) + 1), rfl, rfl, SqL.of g1, rfl, _, _, rfl, rfl, .inl ⟨by decide, by decide⟩, _, _, rfl, rfl, _, _, rfl, rfl, _, _, rfl, rfl, ⟨by decide, by decide, (by omega)⟩,
          .inl ⟨_, rfl, _, _, rfl, rfl, q0 (by decide), ?_⟩⟩
        have c1 := Int.fmod_nonneg_of_pos ((mix' + 7919 * ((n : Int) + 1) + 104729) ^ (5 : Int).toNat) (show (0 : Int) < 2147483629 by decide)
        have c2 := Int.fmod_lt_of_pos ((mix' + 7919 * ((n : Int) + 1) + 104729) ^ (5 : Int).toNat) (show (0 : Int) < 2147483629 by decide)
        refine ⟨_, rfl, _, _, rfl, rfl, .inr ⟨by decide, by decide⟩, _, rfl, a, _, 2, .int ((n : Int) + 1), rfl, rfl, SqL.of g1, rfl, _, _, rfl, rfl, .inl ⟨by decide, by decide⟩, _, _, rfl, rfl, _, _, rfl, rfl, _, _, rfl, rfl, ⟨by decide, by decide, (by omega)⟩,
          .inl ⟨_, rfl, _, _, rfl, rfl, q0 (by decide), _, rfl, _, _, rfl, rfl, q0 (by omega), ?_⟩⟩
        exact k _ _ gS ⟨ne, cs', cur', mix', g1, g2, g3, g4⟩ (Int.fmod_nonneg_of_pos _ (by omega)) (Int.fmod_lt_of_pos _ (by omega))
    refine ⟨fun m' σ' H' => ∃ (cs' : List Int) (cur' mix' : Int) (v2 : Option V), σ' = [some (.ref a), some (.int m), v2, none, none] ∧ m' = cs'.length ∧ H' a = some (.lst [.ref l, .int cur', .int ((n : Int) + 1), .int mix']) ∧ H' l = some (.lst (cs'.map V.int)) ∧ 0 ≤ mix' ∧ mix' < 2147483647 ∧ Sb a l H H',
      ⟨_, cs, cur, mix, none, rfl, rfl, upd_same, by rw [upd_ne ne.symm]; exact h2, h3, h4, fun b o e x y => by rw [upd_ne x]; exact e⟩, ?_⟩
    rintro m' σ' H' ⟨cs', cur', mix', v2, rfl, rfl, g1, g2, g3, g4, gS⟩
    refine ⟨_, rfl, a, _, 1, .int cur', rfl, rfl, SqL.of g1, rfl, rfl, _, rfl, ?_⟩
    refine ite2 (fun _ => ?_) (fun _ => iteF (fin _ _ ⟨cs', cur', mix', v2, rfl, g1, g2, g3, g4, gS⟩))
    refine ⟨_, rfl, a, _, 0, .ref l, rfl, rfl, SqL.of g1, rfl, Nat.zero_le _, fun p hp => ?_⟩
    have pa : p ≠ a := fun z => by
      rw [z, g1] at hp
      cases hp
    have pl : p ≠ l := fun z => by
      rw [z, g2] at hp
      cases hp
    have g1' : upd H' p (.lst []) a = some (.lst [.ref l, .int cur', .int ((n : Int) + 1), .int mix']) := by
      rw [upd_ne pa.symm]
      exact g1
    have g2' : upd H' p (.lst []) l = some (.lst (cs'.map V.int)) := by
      rw [upd_ne pl.symm]
      exact g2
    have gS' : Sb a l H (upd H' p (.lst [])) := gS.trans (Sb.upd hp)
    refine ⟨.list (cs'.map PyData.int), .list [], .lst (SqL.of g2') (dpAll_ints cs'), .lst (SqL.of upd_same) .nil, shaped_ints cs', by decide, _, rfl, ?_⟩
    cases cs' with
    | nil => exact iteF (fin _ _ ⟨[], cur', mix', v2, rfl, g1', g2', g3, g4, gS'⟩)
    | cons c cs' =>
      refine iteT ⟨fun σ'' H'' => ∃ (cur' mix' : Int) (v2 : Option V), σ'' = [some (.ref a), some (.int m), v2, none, none] ∧ H'' a = some (.lst [.ref l, .int cur', .int ((n : Int) + 1), .int mix']) ∧ H'' l = some (.lst (cs'.map V.int)) ∧ 0 ≤ mix' ∧ mix' < 2147483647 ∧ Sb a l H H'', ?_, ?_⟩
      · rintro σ'' H'' ⟨cur'', mix'', v2', rfl, q1, q2, q3, q4, qS⟩
        exact ⟨cs'.length, Nat.lt_succ_self _, cs', cur'', mix'', v2', rfl, rfl, q1, q2, q3, q4, qS⟩
      · refine ⟨_, rfl, a, _, 0, .ref l, rfl, rfl, SqL.of g1', rfl, .inl ⟨rfl, _, SqL.of g2'⟩, l, _, 0, 0, .int c, rfl, rfl, g2', by decide, by decide, ?_, rfl, ?_⟩
        · show (if (0 : Int) ≤ 0 && decide ((0 : Int) < ((c :: cs').map V.int).length) then some (0 : Int).toNat else none) = some 0
          exact if_pos (by simp)
        have e1 : upd (upd H' p (.lst [])) l (.lst (cs'.map V.int)) a = some (.lst [.ref l, .int cur', .int ((n : Int) + 1), .int mix']) := by
          rw [upd_ne ne]
          exact g1'
        refine ⟨_, rfl, a, _, 3, .int mix', rfl, rfl, SqL.of e1, rfl, _, _, rfl, rfl, .inr ⟨by decide, by decide⟩, _, rfl, _, _, rfl, rfl, _, _, rfl, rfl, .inl ⟨_, rfl, _, _, rfl, rfl, (by show (2147483647 : Int) ≠ 0; decide), ?_⟩⟩
        refine ⟨_, rfl, a, _, 3, 3, rfl, rfl, e1, rfl, ?_⟩
        refine ⟨_, rfl, _, _, rfl, rfl, ⟨by decide, by decide, by decide⟩, _, _, rfl, rfl, _, rfl, ?_⟩
        have e2 : ∀ z u : Int, upd (upd (upd (upd H' p (.lst [])) l (.lst (cs'.map V.int))) a (.lst [.ref l, .int cur', .int ((n : Int) + 1), .int z])) a (.lst [.ref l, .int u, .int ((n : Int) + 1), .int z]) l = some (.lst (cs'.map V.int)) := fun z u => by
          rw [upd_ne ne.symm, upd_ne ne.symm, upd_same]
        have e3 : ∀ o1 o2 o3 : HO, Sb a l H (upd (upd (upd (upd H' p (.lst [])) l o1) a o2) a o3) := fun o1 o2 o3 b o e x y => by
          have bl : b ≠ l := fun z => by
            have q := gS' b o e x y
            rw [z, g2', y z] at q
            cases q
          rw [upd_ne x, upd_ne x, upd_ne bl]
          exact gS' b o e x y
        have m0 : (0 : Int) < 2147483647 := by decide
        refine ite2 (fun _ => ?_) (fun _ => ?_)
        · refine ⟨_, rfl, _, rfl, a, _, 1, 1, rfl, rfl, upd_same, rfl, ?_⟩
          exact ⟨_, _, _, rfl, upd_same, e2 _ _, Int.fmod_nonneg_of_pos _ m0, Int.fmod_lt_of_pos _ m0, e3 _ _ _⟩
        · refine ⟨_, rfl, a, _, 1, 1, rfl, rfl, upd_same, rfl, ?_⟩
          exact ⟨_, _, _, rfl, upd_same, e2 _ _, Int.fmod_nonneg_of_pos _ m0, Int.fmod_lt_of_pos _ m0, e3 _ _ _⟩
end
end Lamp
set_option maxHeartbeats 8000000
namespace Lamp
open PySem PySem.Spec PyProof.Rows L2
/-! ### dicts made of pairs; _law_h_ledger -/
/-- pairs (text, value) -/
def PrAt (H : Hp) (qs : List Addr) (ys : List Str) (nv : Str → V) : Prop := Paired (fun (q : Addr) (r : Str) => H q = some (.tup [.str r, nv r])) qs ys
theorem PrAt.up {H H' : Hp} {qs : List Addr} {ys : List Str} {nv : Str → V} (h : PrAt H qs ys nv) (s : Same H H') : PrAt H' qs ys nv := Paired.imp (fun _ _ e => s _ _ e) h
/-- one more, put into the list at D -/
theorem PrAt.more {H H' : Hp} {qs : List Addr} {ys : List Str} {nv : Str → V} {D T : Addr} {r : Str} {o : HO} {xs : List V} (h : PrAt H qs ys nv) (g : Same H H') (hD : H D = some (.lst xs)) (hT : H' T = some (.tup [.str r, nv r])) : PrAt (upd H' D o) (qs ++ [T]) (ys ++ [r]) nv := by
  have ne : ∀ {q : Addr} {vs : List V}, H' q = some (.tup vs) → q ≠ D := fun e z => by
    rw [z, g _ _ hD] at e
    cases e
  refine paired_snoc (by rw [upd_ne (ne hT)]; exact hT) (Paired.imp (fun q x e => ?_) h)
  have e2 := g _ _ e
  rw [upd_ne (ne e2)]
  exact e2
theorem PrAt.dict {K : PySem.W.Frag} {H : Hp} {qs : List Addr} {ys : List Str} {nv : Str → V} (h : PrAt H qs ys nv) : Paired (fun (q : Addr) (kv : Key × V) => SqT K H q [kV kv.1, kv.2]) qs (TM ys nv) := by
  unfold PrAt at h
  induction h with
  | nil => exact .nil
  | cons r _ ih => exact .cons (SqT.of r) ih
section
variable {P : Program} {w : World} {K : PySem.W.Frag} {mg : Str → Option Value} {base : Heap}
structure TxtDk (mg : Str → Option Value) : Prop where
  dict : mg "dict" = none
  srt : mg "sorted" = none
  list : mg "list" = none
def spHLed : Sp := fun vs H Q _ => ∃ (p r : Addr) (rs row : List Str), vs = [.ref p, .ref r] ∧ H p = some (.lst (rs.map V.str)) ∧ rs.Nodup ∧ rs.length < 60 ∧ H r = some (.lst (row.map V.str)) ∧
  ∀ H' d rs', rs'.Perm rs → sortedS rs' = true → H' d = some (.dK (TM rs' (NI fun x => row.count x))) → Gr H H' → H d = none → Q (.ref d) H'
abbrev NHl : List Str := ["rooms", "row", "room"]
end
end Lamp
set_option maxHeartbeats 1000000
namespace Lamp
open PySem PySem.Spec PyProof.Rows L2
/-! ### _law_drawn: a dict from all rooms to drawn numbers -/
theorem PrAt.cong {H : Hp} {nv nu : Str → V} : ∀ {qs : List Addr} {ys : List Str}, PrAt H qs ys nv → (∀ r ∈ ys, nv r = nu r) → PrAt H qs ys nu
  | [], [], _, _ => .nil
  | [], _ :: _, h, _ => by cases h
  | _ :: _, [], h, _ => by cases h
  | q :: qs, y :: ys, h, e => by
    cases h with
    | cons h1 h2 => exact .cons (by rw [← e y List.mem_cons_self]; exact h1) (PrAt.cong h2 fun r hr => e r (List.mem_cons_of_mem _ hr))
section
variable {P : Program} {w : World} {K : PySem.W.Frag} {mg : Str → Option Value} {base : Heap}
def spDrawn : Sp := fun vs H Q _ => ∃ (a l p : Addr) (n : Nat) (rs : List Str), vs = [.ref a, .ref p] ∧ Spr H a l n ∧ H p = some (.lst (rs.map V.str)) ∧ p ≠ a ∧ p ≠ l ∧ rs.Nodup ∧ rs.length < 60 ∧ n ≤ 900000 ∧
  ∀ H' d ys c, ys.Perm rs → H' d = some (.dK (TM ys (NI c))) → (∀ z, c z < 1073741824) → Gs a l H H' → H d = none → Spr H' a l (n + 1 + rs.length + rs.length) → Q (.ref d) H'
abbrev NDn : List Str := ["stream", "rooms", "most", "room"]
end
end Lamp
set_option maxHeartbeats 1000000
namespace Lamp
open PySem PySem.Spec PyProof.Rows L2
/-! ### repr of a dict from texts to numbers -/
def shEnt (c : Str → Nat) (r : Str) : Str := reprText r ++ ": " ++ Str.ofString (toString ((c r : Nat) : Int))
theorem repr_name {x : Str} (h : nameOk x = true) : (reprText x).length ≤ 122 := by
  have k := strOk_name h
  have z := StrLaws.reprText_len x fun c hc => by
    have k' : x.cps.all (fun c => decide (c < 0x110000)) = true := k
    rw [← Array.all_toList] at k'
    have q := of_decide_eq_true (List.all_eq_true.mp k' c hc)
    omega
  obtain ⟨_, h⟩ := Bool.and_eq_true_iff.mp h
  obtain ⟨h, _⟩ := Bool.and_eq_true_iff.mp h
  have l := of_decide_eq_true h
  omega
theorem num_short {n : Nat} (h : n < 1073741824) : (Str.ofString (toString ((n : Nat) : Int))).length ≤ 10 := toString_length_le (by omega) (by decide) (by omega)
theorem num_log {n : Nat} (h : n < 1073741824) : ((n : Nat) : Int).natAbs.log2 < 1920 := by
  rcases Nat.eq_zero_or_pos n with rfl | p
  · decide
  · exact Nat.lt_trans ((Nat.log2_lt (k := 30) (by omega)).mpr (by show n < 1073741824; exact h)) (by decide)
theorem ents {P : Program} {w : World} {h : Heap} {c : Str → Nat} : ∀ {ys : List Str} {vs : List (Key × Value)} {es : List DictEntry}, KV (TM ys (NI c)) vs → Pairs (mixKind P w) es vs → (∀ y ∈ ys, nameOk y = true ∧ c y < 1073741824) → ReprEntriesK P w [] h 0 es (ys.map (shEnt c))
  | [], vs, es, kv, hp, _ => by
    cases kv
    cases hp
    exact .nil
  | y :: ys, vs, es, kv, hp, ok => by
    cases kv with
    | cons q r =>
      rename_i kv vs
      obtain ⟨k, v⟩ := kv
      obtain ⟨rfl, t, rfl⟩ := q
      cases hp with
      | cons h1 h2 h3 =>
        rename_i e es
        obtain ⟨e1, e2, e3⟩ := e
        have h1' : keyIs (Sum.inr y) e2 = true := h1
        have h2' : e3 = Value.int _ t := h2
        obtain ⟨o1, o2⟩ := ok y List.mem_cons_self
        rcases keyIs_shape h1' with ⟨i, t', z, _⟩ | ⟨x, t', z, e⟩
        · cases z
        · injection z with z
          subst z e h2'
          exact .cons (.of_is (ReprIs.str y t' (Nat.le_trans (repr_name o1) (by decide))) _ _ _) (.of_is (ReprIs.int t (num_log o2)) _ _ _) (ents r h3 fun z hz => ok z (List.mem_cons_of_mem _ hz))
def rReprD : List V → Hp → VK → Prop := fun xs H Q => ∃ (a : Addr) (ys : List Str) (c : Str → Nat), xs = [.ref a] ∧ H a = some (.dK (TM ys (NI c))) ∧ (∀ y ∈ ys, nameOk y = true ∧ c y < 1073741824) ∧ ys.length < 60 ∧ Q (.str (dictText (ys.map (shEnt c)))) H
theorem piled_short {c : Str → Nat} : ∀ {ys : List Str}, (∀ y ∈ ys, nameOk y = true ∧ c y < 1073741824) → piled (ys.map (shEnt c)) ≤ 140 * ys.length
  | [], _ => Nat.le_refl _
  | y :: ys, ok => by
    obtain ⟨o1, o2⟩ := ok y List.mem_cons_self
    have ih := piled_short (ys := ys) fun z hz => ok z (List.mem_cons_of_mem _ hz)
    have l1 := repr_name o1
    have l2 := num_short o2
    have l3 : (shEnt c y).length = (reprText y).length + 2 + (Str.ofString (toString ((c y : Nat) : Int))).length := by
      unfold shEnt
      rw [strLen_append, strLen_append]
      rfl
    rw [List.map_cons, piled_cons, l3, List.length_cons]
    omega
theorem call_reprD {X : Cx} (hg : X.A.guards = some []) (hu : X.A.units + 64 < cLine) : CallR X (.builtin "repr") rReprD := by
  intro pins s σ H xs us Q I r h
  obtain ⟨a, ys, c, rfl, ha, ok, hl, q⟩ := h
  obtain ⟨u, rfl, ru⟩ := vals1 r
  obtain rfl : u = Value.ref a := ru
  obtain ⟨_, ne, vs, kv, o, es, ep, ho, hx, hd, hk, hp, hn⟩ := (show ObjOk X.prog X.w H s.heap a (.dK (TM ys (NI c))) from I.hok a _ ha)
  have ty : s.TypeIs (.ref a) "dict" := ⟨_, ho, hx.1⟩
  have txt : (dictText (ys.map (shEnt c))).length ≤ sizeLine := by
    have e : (dictText (ys.map (shEnt c))).length = 1 + (Str.join ", " (ys.map (shEnt c))).length + 1 := by
      unfold dictText
      rw [strLen_append, strLen_append]
      rfl
    have p := piled_short ok
    have sz : sizeLine = 16777216 := by decide
    by_cases h : ys.map (shEnt c) = []
    · rw [h]
      decide
    · have h2 := join_length_add _ h
      omega
  refine call_repr_slot (by omega) ty F.slot_dict_repr ?_
  exact call_dict_reprK ho hx.1 hd ne (fun z => by cases z) (ents kv hp ok) (g := []) hg (fun b _ => Clear.nil b) (by show X.A.in1.units + _ < _; have e : X.A.in1.units = X.A.units + 1 := rfl; omega) (fun _ _ e => e) (fun h' u tk k => ⟨_, _, rfl, .str _, H, I.kept (t' := tk) k, ⟨_, rfl⟩, q⟩) txt
end Lamp
set_option maxHeartbeats 4000000
namespace Lamp
open PySem PySem.Spec PyProof.Rows L2
/-! ### a def that is called where nothing is being shown; the entry -/
structure FnG (P : Program) (w : World) (K : PySem.W.Frag) (mg : Str → Option Value) (base : Heap) (k : Nat) (f : Addr) (ps : List Str) (sp : Sp) : Prop where
  len : ∀ vs H Q E, sp vs H Q E → vs.length = ps.length
  run : ∀ (A : Around) (outer : List Env) (s : Shared) (H : Hp) (us : List Value) (vs : List V) (Q : VK), A.guards = some [] → Room k A → Env0 P w K mg base A outer s H → Vals vs us → sp vs H Q E0 →
    codeAny (model P w) A (.call (.ref f) ⟨us, []⟩) (CR CX0 outer P w H s Q E0) s
def FunC0 (K : PySem.W.Frag) (x : Str) (st : Stmt) (f c : Addr) (fd : FuncData) : Prop := ∃ (oc : Value) (od : Option Addr) (kV doc pm : Value) (an : Option Addr) (ct : Value) (osl : Array (Option Value)),
  fd = PySem.W.fnOf x x (defArgs st) (defBody st) (defScope st) .none kV doc pm an (.ref c) ct ∧ K.lookup f = some ⟨oc, od, .func fd, osl⟩ ∧ PySem.W.codeIn K (.ref c) x = true
theorem fnG_c {P : Program} {w : World} {K : PySem.W.Frag} {mg : Str → Option Value} {base : Heap} {x : Str} {st : Stmt} {f c : Addr} {fd : FuncData} {N ps : List Str} {k : Nat} {sp : Sp} (F : FunC0 K x st f c fd) (S : FnScope N ps (defScope st)) (len : ∀ vs H Q E, sp vs H Q E → vs.length = ps.length)
    (hb : L2.Binds K fd ps [])
    (hbody : ∀ (A : Around) (outer : List Env) (s : Shared) (H : Hp) (vs : List V) (Q : VK), A.guards = some [] → Room k (A.deeper (envOfC x (defScope st) s.heap.objs.size f (.ref c))) → sp vs H Q E0 →
      ∃ t, PSs (cxOf CX0 P w K mg base N x (defScope st) f (.ref c) A outer s H E0).nox (defBody st) t ∧ t { nx := fun _ H' => Q .non H', rt := Q } (L2.start N vs) H) : FnG P w K mg base (k + 1) f ps sp := by
  obtain ⟨oc, od, kV, doc, pm, an, ct, osl, e, lk, hcd⟩ := F
  refine ⟨len, fun A outer s H us vs Q hg hr e0 r hsp => ?_⟩
  have l : vs.length = ps.length := len _ _ _ _ hsp
  have bind : BindsTo s fd ⟨us, []⟩ (ps.zip us) := by
    have z := hb s us (e0.mod.kin.keeps fun b o e => (e0.bs b o e).1) (by rw [List.append_nil]; exact r.length.symm.trans l)
    rw [List.append_nil] at z
    exact z
  subst e
  refine LamX.run_ofS lk hcd S hr e0 bind r l fun hr' => ?_
  obtain ⟨t, h, q⟩ := hbody A outer s H vs Q hg hr' hsp
  exact ⟨t, h.nox, q⟩
/-! ### the entry: the law is called where nothing is being shown -/
/-- what is tracked at the entry: the tables of code objects, the script (if it is no part of what the top wrote) -/
noncomputable def entH (K : PySem.W.Frag) (ts : List Addr) (a : Addr) (o : Obj) (xs : List V) : Hp := fun b => by
  classical exact if b ∈ ts then some (.tbl #[]) else if b = a ∧ K.lookup a = none then some (.frz o (.lst xs)) else none
section
variable {K : PySem.W.Frag} {ts : List Addr} {a : Addr} {o : Obj} {xs : List V}
theorem entH_tab {b : Addr} (h : b ∈ ts) : entH K ts a o xs b = some (.tbl #[]) := if_pos h
theorem entH_scr (h : a ∉ ts) (k : K.lookup a = none) : entH K ts a o xs a = some (.frz o (.lst xs)) := (if_neg h).trans (if_pos ⟨rfl, k⟩)
theorem entH_cases (b : Addr) : (b ∈ ts ∧ entH K ts a o xs b = some (.tbl #[])) ∨ (b ∉ ts ∧ b = a ∧ K.lookup a = none ∧ entH K ts a o xs b = some (.frz o (.lst xs))) ∨ (b ∉ ts ∧ entH K ts a o xs b = none) := by
  by_cases h : b ∈ ts
  · exact .inl ⟨h, if_pos h⟩
  · by_cases g : b = a ∧ K.lookup a = none
    · exact .inr (.inl ⟨h, g.1, g.2, (if_neg h).trans (if_pos g)⟩)
    · exact .inr (.inr ⟨h, (if_neg h).trans (if_neg g)⟩)
end
/-- a def that keeps its promise at the caller's place, called with the script -/
theorem entry_runs {P : Program} {w : World} {K : PySem.W.Frag} {mg mb : Str → Option Value} {k : Nat} {fa a : Addr} {cs : List (Addr × Addr)} {x : Str} {sp : Sp} {s₁ : Shared} {us : List Value} {ns : List Int}
    (KX : K.In s₁.heap) (gl : s₁.heap.Ns mainGlobals mg) (bl : s₁.heap.Ns builtinsNs mb) (bt : ∀ x : Str, x ≠ "__name__" → mb x = bootBuiltins x) (nl : s₁.heap.NoLimit) (ge : s₁.gens = #[])
    (tabs : ∀ p ∈ cs, s₁.heap.get? p.2 = some { cls := .none, data := .fields #[] } ∧ K.lookup p.2 = none ∧ PySem.W.CodeHd s₁.heap p.1 p.2)
    (mo : ∃ (bm : Addr) (ob : Obj), mg "__builtins__" = some (.ref bm) ∧ bm ≠ builtinsNs ∧ s₁.heap.get? bm = some ob ∧ ob.cls = .type "module" ∧ ob.dict = some builtinsNs ∧ ob.data = .plain)
    (sc : s₁.heap.get? a = some { cls := .type "list", data := .seq us.toArray }) (it : IntsAre us ns) (short : ns.length ≤ sizeLine) (hr : Room k callerA)
    (G : ∀ base : Heap, K.In base → base.Ns mainGlobals mg → (∀ p ∈ cs, LamX.TabB base mg p.1 p.2) → FnG P w K mg base k fa [x] sp)
    (hsp : ∀ H : Hp, (∀ p ∈ cs, H p.2 = some (.tbl #[])) → SqL K H a (ns.map V.int) → sp [.ref a] H (fun v _ => v = .bl true) E0) :
    codeAny (model P w) callerA (.call (.ref fa) ⟨[.ref a], []⟩) (fun r s' => r = .ok (.ret (.bool true)) ∧ OldK s₁.heap s'.heap ∧ s'.os = s₁.os ∧ AllBare s'.gens) s₁ := by
  have many := it.length
  have rel := vals_ints it
  let T := cs.map (·.2)
  let S : Obj := { cls := .type "list", data := .seq us.toArray }
  have isTab : ∀ {b}, b ∈ T → s₁.heap.get? b = some { cls := .none, data := .fields #[] } ∧ K.lookup b = none := fun {b} m => by
    obtain ⟨p, hp, rfl⟩ := List.mem_map.mp m
    exact ⟨(tabs p hp).1, (tabs p hp).2.1⟩
  have inT : ∀ p ∈ cs, p.2 ∈ T := fun p hp => List.mem_map.mpr ⟨p, hp, rfl⟩
  have aT : a ∉ T := fun m => by
    have z := (isTab m).1.symm.trans sc
    cases z
  generalize eH : entH K T a S (ns.map V.int) = H
  have cases_ : ∀ b, (b ∈ T ∧ H b = some (.tbl #[])) ∨ (b ∉ T ∧ b = a ∧ K.lookup a = none ∧ H b = some (.frz S (.lst (ns.map V.int)))) ∨ (b ∉ T ∧ H b = none) := fun b => by
    rw [← eH]
    exact entH_cases b
  have frz : ObjOk P w H s₁.heap a (.frz S (.lst (ns.map V.int))) := ⟨sc, by show (ns.map V.int).length ≤ sizeLine; rw [List.length_map]; exact short, us, _, rel, sc⟩
  have ok : HOk P w H s₁.heap := fun b u e => by
    rcases cases_ b with ⟨m, h⟩ | ⟨_, rfl, _, h⟩ | ⟨_, h⟩
    · rw [h] at e
      cases e
      exact (isTab m).1
    · rw [h] at e
      cases e
      exact frz
    · rw [h] at e
      cases e
  -- what is no list and no empty table isn't tracked
  have off : ∀ {b u}, s₁.heap.get? b = some u → (∀ vs n, u.data ≠ .seq vs n) → u.data ≠ .fields #[] → H b = none := fun {b u} e n1 n2 => by
    rcases cases_ b with ⟨m, _⟩ | ⟨_, rfl, _, _⟩ | ⟨_, h⟩
    · have z := (isTab m).1.symm.trans e
      cases z
      exact absurd rfl n2
    · have z := sc.symm.trans e
      cases z
      exact absurd rfl (n1 _ _)
    · exact h
  have offK : ∀ {b u}, K.lookup b = some u → H b = none := fun {b u} e => by
    rcases cases_ b with ⟨m, _⟩ | ⟨_, rfl, n, _⟩ | ⟨_, h⟩
    · rw [(isTab m).2] at e
      cases e
    · rw [n] at e
      cases e
    · exact h
  have script : SqL K H a (ns.map V.int) := by
    rcases cases_ a with ⟨m, _⟩ | ⟨_, _, _, h⟩ | ⟨_, h⟩
    · exact absurd m aT
    · exact .inl (.inr ⟨S, h⟩)
    · cases q : K.lookup a with
      | some u =>
        have z := (KX a u q).symm.trans sc
        cases z
        exact .inr ⟨_, us.toArray, _, q, rfl, rfl, rfl, by rw [List.size_toArray, many]; exact short, by simpa using rel⟩
      | none =>
        rw [← eH, entH_scr aT q] at h
        cases h
  -- the base: all that isn't tracked
  have keepNs : ∀ {b m}, s₁.heap.Ns b m → (hidT s₁.heap H).Ns b m := fun {b m} ⟨u, es, ep, e, d, r⟩ => ⟨u, es, ep, hidT_get e (off e (fun vs n z => by rw [d] at z; cases z) fun z => by rw [d] at z; cases z), d, r⟩
  have baseK : K.In (hidT s₁.heap H) := fun b u e => hidT_get (KX b u e) (offK e)
  have mod : L2.Mod K mg (hidT s₁.heap H) := by
    obtain ⟨m, l1, l2⟩ := nl
    exact ⟨baseK, keepNs gl, ⟨mb, keepNs bl, bt⟩, m, keepNs l1, l2⟩
  have tb : ∀ p ∈ cs, LamX.TabB (hidT s₁.heap H) mg p.1 p.2 := fun p hp => by
    obtain ⟨t1, _, cu, cvs, file, tf, fl, tg, inF, tx, tt, c1, c2, c3, c4, crest⟩ := tabs p hp
    obtain ⟨bm, ob, b1, b2, b3, b4, b5, b6⟩ := mo
    refine ⟨⟨cu, cvs, file, tf, fl, tg, inF, tx, tt, hidT_get c1 (off c1 (fun vs n z => by rw [c3] at z; cases z) fun z => ?_), c2, c3, c4, crest⟩, ⟨bm, ob, b1, b2, fun z => ?_, fun z => ?_, hidT_get b3 (off b3 (fun vs n z => by rw [b6] at z; cases z) fun z => by rw [b6] at z; cases z), b4, b5, b6⟩, fun z => ?_⟩
    · rw [c3] at z
      cases z
      simp at c4
    · obtain ⟨u, es, ep, e, d, _⟩ := gl
      rw [← z, b3] at e
      cases e
      rw [b6] at d
      cases d
    · rw [z, t1] at b3
      cases b3
      cases b6
    · obtain ⟨u, es, ep, e, d, _⟩ := gl
      rw [z, t1] at e
      cases e
      cases d
  have env : Env0 P w K mg (hidT s₁.heap H) callerA [] s₁ H := ⟨rfl, mod, fun b u e => of_hidT e, Nat.le_of_eq (hidT_size _ _), True.intro, (fun b m => absurd m List.not_mem_nil), ok, AllBare.of_eq ge⟩
  refine codeAny_mono ((G _ baseK (keepNs gl) tb).run callerA [] s₁ H [.ref a] [.ref a] _ rfl hr env (.cons rfl .nil) (hsp H (fun p hp => ?_) script)) fun r s' h => ?_
  · rcases cases_ p.2 with ⟨_, h⟩ | ⟨n, _⟩ | ⟨n, _⟩
    · exact h
    · exact absurd (inT p hp) n
    · exact absurd (inT p hp) n
  · rcases r with e | fl
    · exact (show False from h).elim
    · cases fl with
      | ret u =>
        obtain ⟨v, H', os, bare, un, ok', ru, q⟩ := h
        obtain rfl : v = .bl true := q
        obtain rfl : u = Value.bool true := ru
        have stands : ∀ b u, b ∉ T → s₁.heap.get? b = some u → s'.heap.get? b = some u := fun b u m e => by
          rcases cases_ b with ⟨m', _⟩ | ⟨_, rfl, _, h⟩ | ⟨_, h⟩
          · exact absurd m' m
          · obtain ⟨e2, _⟩ := ok' _ _ (un.frzs _ _ _ h)
            have z := sc.symm.trans e
            cases z
            exact e2
          · exact un.keep b u e h (by intro z; cases z) (by intro z; cases z)
        have grown : ∀ p ∈ cs, ∃ more : Array Value, s'.heap.get? p.2 = some { cls := .none, data := .fields more } := fun p hp => by
          rcases cases_ p.2 with ⟨_, h⟩ | ⟨n, _⟩ | ⟨n, _⟩
          · obtain ⟨more, z⟩ := un.tbls p.2 #[] h
            exact ⟨_, ok' p.2 _ z⟩
          · exact absurd (inT p hp) n
          · exact absurd (inT p hp) n
        refine ⟨rfl, ⟨fun b u e => ?_, fun b u e => ?_⟩, os, bare⟩
        · by_cases m : b ∈ T
          · obtain ⟨p, hp, rfl⟩ := List.mem_map.mp m
            obtain ⟨t1, _, hd⟩ := tabs p hp
            obtain ⟨more, g⟩ := grown p hp
            have z := t1.symm.trans e
            cases z
            exact .inr (.inl ⟨(hd.tab t1).isCodeTable, rfl, #[], more, rfl, by rw [Array.empty_append]; exact g⟩)
          · exact .inl (stands b u m e)
        · by_cases m : b ∈ T
          · obtain ⟨p, hp, rfl⟩ := List.mem_map.mp m
            obtain ⟨more, g⟩ := grown p hp
            exact ⟨_, g⟩
          · exact ⟨u, stands b u m e⟩
      | _ => exact False.elim h
end Lamp
set_option maxHeartbeats 1000000
namespace Lamp
open PySem PySem.Spec PyProof.Rows L2
/-! ### told data that repr shows -/
structure Shw (d : PyData) (k b : Nat) : Prop where
  sh : d.showable = true
  nd : d.hasDict = false
  dp : d.depth ≤ k
  lay : d.canLay0 = true
  is : d.intsShort 13 = true
  wt : d.weight ≤ b
theorem shw_all {k b : Nat} : ∀ {ds : List PyData}, (∀ d ∈ ds, Shw d k b) → PyData.showableAll ds = true ∧ PyData.hasDictAll ds = false ∧ PyData.depthAll ds ≤ k ∧ PyData.canLayAll0 ds = true ∧ PyData.intsShortAll 13 ds = true ∧ PyData.weightAll ds ≤ ds.length * (b + 1)
  | [], _ => ⟨rfl, rfl, Nat.zero_le _, rfl, rfl, by show 0 ≤ 0 * (b + 1); omega⟩
  | d :: ds, h => by
    obtain ⟨h1, h2, h3, h4, h5, h6⟩ := shw_all (ds := ds) fun x hx => h x (List.mem_cons_of_mem _ hx)
    have s := h d List.mem_cons_self
    refine ⟨?_, ?_, ?_, ?_, ?_, ?_⟩
    · show (PyData.showable d && PyData.showableAll ds) = true
      rw [s.sh, h1]; rfl
    · show (PyData.hasDict d || PyData.hasDictAll ds) = false
      rw [s.nd, h2]; rfl
    · show max (PyData.depth d) (PyData.depthAll ds) ≤ k
      have := s.dp
      omega
    · show (PyData.canLay0 d && PyData.canLayAll0 ds) = true
      rw [s.lay, h4]; rfl
    · show (PyData.intsShort 13 d && PyData.intsShortAll 13 ds) = true
      rw [s.is, h5]; rfl
    · show PyData.weight d + 1 + PyData.weightAll ds ≤ (ds.length + 1) * (b + 1)
      have := s.wt
      rw [Nat.succ_mul]
      omega
theorem Shw.list {k b : Nat} {ds : List PyData} (h : ∀ d ∈ ds, Shw d k b) : Shw (.list ds) (k + 1) (ds.length * (b + 1)) := by
  obtain ⟨h1, h2, h3, h4, h5, h6⟩ := shw_all h
  exact ⟨h1, h2, by show PyData.depthAll ds + 1 ≤ k + 1; omega, h4, h5, h6⟩
theorem Shw.tup {k b : Nat} {ds : List PyData} (h : ∀ d ∈ ds, Shw d k b) : Shw (.tuple ds) (k + 1) (ds.length * (b + 1)) := by
  obtain ⟨h1, h2, h3, h4, h5, h6⟩ := shw_all h
  exact ⟨h1, h2, by show PyData.depthAll ds + 1 ≤ k + 1; omega, h4, h5, h6⟩
theorem Shw.mono {d : PyData} {k k' b b' : Nat} (s : Shw d k b) (hk : k ≤ k') (hb : b ≤ b') : Shw d k' b' := ⟨s.sh, s.nd, Nat.le_trans s.dp hk, s.lay, s.is, Nat.le_trans s.wt hb⟩
theorem Shw.name {z : Str} (h : nameOk z = true) : Shw (.str z) 0 12 := by
  refine ⟨rfl, rfl, Nat.le_refl _, strOk_name h, rfl, ?_⟩
  unfold nameOk at h
  simp only [Bool.and_eq_true, decide_eq_true_eq] at h
  have l : z.length ≤ 12 := by omega
  exact l
theorem Shw.fits {d : PyData} {b : Nat} (s : Shw d 10 b) (hb : b ≤ 1000000) : d.depth ≤ 60 ∧ d.shown.length ≤ sizeLine := by
  have dp := s.dp
  refine ⟨by omega, PyData.shown_fits_of_layable0 (B := 13) (by decide) (by decide) ?_ s.is⟩
  show (PyData.canLay0 d && decide (PyData.depth d ≤ 64) && decide (PyData.weight d ≤ 2 ^ 20)) = true
  have w := s.wt
  rw [s.lay, decide_eq_true (by omega), decide_eq_true (by have e : (2 : Nat) ^ 20 = 1048576 := by decide
                                                           omega)]
  rfl
/-- a told thing, as data, now and later -/
def DpS (K : PySem.W.Frag) (H : Hp) (v : V) (d : PyData) : Prop := ∀ H', Same H H' → Dp K H' v d
theorem dpS_all {K : PySem.W.Frag} {H : Hp} : ∀ {vs : List V} {ds : List PyData}, Paired (DpS K H) vs ds → ∀ H', Same H H' → DpAll K H' vs ds
  | [], [], .nil, _, _ => .nil
  | _ :: _, _ :: _, .cons a q, H', s => .cons (a H' s) (dpS_all q H' s)
/-- what was loosened, as data -/
theorem ru_dp {α : Type} {K : PySem.W.Frag} {R : Hp → Hp → V → α → Prop} {B H : Hp} {k b : Nat} {v : V} {xs : List α} (h : RU R B H v xs) (hl : xs.length ≤ 12) (it : ∀ u x, x ∈ xs → R B H u x → ∃ d, DpS K H u d ∧ Shw d k b) : ∃ d, DpS K H v d ∧ Shw d (k + 1) (12 * (b + 1)) := by
  obtain ⟨q, us, e, _, hq, p⟩ := h
  have get : ∀ {us : List V} {ys : List α}, Paired (R B H) us ys → (∀ y ∈ ys, y ∈ xs) → ∃ ds, Paired (DpS K H) us ds ∧ (∀ d ∈ ds, Shw d k b) ∧ ds.length = ys.length := fun {us ys} p => by
    induction p with
    | nil => exact fun _ => ⟨[], .nil, fun d hd => (by cases hd), rfl⟩
    | cons a _ ih =>
      intro sub
      obtain ⟨ds, h1, h2, h3⟩ := ih fun y hy => sub y (List.mem_cons_of_mem _ hy)
      obtain ⟨d, d1, d2⟩ := it _ _ (sub _ List.mem_cons_self) a
      refine ⟨d :: ds, .cons d1 h1, fun c hc => ?_, by rw [List.length_cons, List.length_cons, h3]⟩
      rcases List.mem_cons.mp hc with rfl | hc
      · exact d2
      · exact h2 c hc
  obtain ⟨ds, h1, h2, h3⟩ := get p fun y hy => hy
  have lb : ds.length * (b + 1) ≤ 12 * (b + 1) := Nat.mul_le_mul_right _ (by omega)
  subst e
  rcases hq with hq | hq
  · exact ⟨.list ds, fun H' s => .lst (SqL.of (s _ _ hq)) (dpS_all h1 H' s), (Shw.list h2).mono (Nat.le_refl _) lb⟩
  · exact ⟨.tuple ds, fun H' s => .tup (SqT.of (s _ _ hq)) (dpS_all h1 H' s), (Shw.tup h2).mono (Nat.le_refl _) lb⟩
end Lamp
set_option maxHeartbeats 8000000
namespace Lamp
open PySem PySem.Spec PyProof.Rows L2
/-! ### the drawn house: a door less than rooms -/
def spHHouseT : Sp := fun vs H Q _ => ∃ (a l : Addr) (n : Nat) (m : Nat), vs = [.ref a, .int (m : Nat)] ∧ Spr H a l n ∧ 1 ≤ m ∧ m ≤ 12 ∧ n ≤ 800000 ∧
  ∀ H' t p q (rs : List Str) ts es k, k ≤ n + 100 → rs.length ≤ 12 → es.length < 30 → es.length + 1 = rs.length → GoodH rs es → (∀ r ∈ rs, NokN r) → H' p = some (.lst (rs.map V.str)) → TupsAt H' ts es → H' q = some (.lst (ts.map V.ref)) → H' t = some (.tup [.ref p, .ref q]) → Gs a l H H' → Spr H' a l k → Q (.ref t) H'
section
variable {P : Program} {w : World} {K : PySem.W.Frag} {mg : Str → Option Value} {base : Heap} {C : Addr}
theorem ok_hhouseT {f : Addr} {fd : FuncData} (F : Fun K "_law_h_house" "_law_h_house" s_law_h_house f fd) (DO : Stands P w K mg base 1 "_law_draw" ["stream", "many"] spDraw) (MO : Stands P w K mg base 2 "_law_mixed" ["stream", "some"] (spMixed K)) (NO : Stands P w K mg base 3 "_law_h_names" ["stream", "many"] spNamesN) (EO : Stands P w K mg base 3 "_law_h_doors" ["stream", "rooms"] spHDoors) : FnOk P w K mg base CX0 4 f fd ["stream", "most"] spHHouseT := by
  obtain ⟨fM, dM, GM, mM, kM, bM⟩ := MO
  obtain ⟨fD, dD, GD, mD, kD, bD⟩ := DO
  obtain ⟨fN, dN, GN, mN, kN, bN⟩ := NO
  obtain ⟨fE, dE, GE, mE, kE, bE⟩ := EO
  refine F.ok scHH (fun vs H Q E h => ?_) (fun cdv A outer s H vs Q E hr h => ?_)
  · obtain ⟨a, l, n, m, rfl, _⟩ := h
    rfl
  · obtain ⟨a, l, n, m, rfl, hS, m1, m2, hn, k⟩ := h
    refine ⟨_, pss_cons (ps_set (i := 2) scHH.nd rfl (Or.inl rfl) (pe_call GN hr (by rfl) mN kN bN .nil pass0 (pa_cons (pv 0) (pa_cons (pe_op op_add pe_int (pe_call GD (hr.mono (by decide)) (by rfl) mD kD bD .nil pass0 (pa_cons (pv 0) (pa_cons (pv 1) pa_nil)))) pa_nil))))
      (pss_one (ps_ret (pe_tup (pa_cons (pe_call GM (hr.mono (by decide)) (by rfl) mM kM bM .nil pass0 (pa_cons (pv 0) (pa_cons (pv 2) pa_nil))) (pa_cons (pe_call GE hr (by rfl) mE kE bE .nil pass0 (pa_cons (pv 0) (pa_cons (pv 2) pa_nil))) pa_nil))))), ?_⟩
    refine ⟨_, rfl, _, rfl, _, rfl, a, l, n, _, rfl, hS, by omega, by omega, by omega, fun H1 d sb1 s1 d0 d1 => ?_⟩
    have g1 : Gs a l H H1 := Gs.of sb1 s1
    obtain ⟨j, rfl⟩ : ∃ j : Nat, d = (j : Int) := ⟨d.toNat, by omega⟩
    have ej : (1 : Int) + (j : Int) = ((1 + j : Nat) : Int) := by omega
    refine ⟨_, _, rfl, rfl, ?_⟩
    refine ⟨a, l, n + 1, 1 + j, by rw [← ej]; rfl, s1, by omega, by omega, by omega, fun H2 p rs lr nd ok g2 s2 np e2 => ?_⟩
    refine ⟨_, rfl, _, rfl, a, l, p, n + 1 + 12, rs.map V.str, rfl, s2, .inl (SqL.of e2), by rw [List.length_map]; omega, by rw [List.length_map]; omega, fun H3 q ys sb3 s3 nq e3 py => ?_⟩
    obtain ⟨zs, rfl, pz⟩ := perm_strs py
    rw [List.length_map] at s3
    have g3 : Gs a l H2 H3 := Gs.of sb3 s3
    have rne : rs ≠ [] := fun z => by
      rw [z] at lr
      simp at lr
      omega
    refine ⟨_, rfl, _, rfl, a, l, p, _, rs, rfl, s3, g3.keep s2 e2 (ok_strs _), rne, by omega, nd, by omega, fun H4 u ts es es0 k4 le4 tr pe te eu g4 s4 nu => ?_⟩
    refine ⟨(by show 2 ≤ sizeLine; decide), fun t nt => ?_⟩
    have g5 : Gs a l H4 (upd H4 t (.tup [.ref q, .ref u])) := (Gr.upd nt).gs
    have gd : GoodH zs es := (tree_good tr (by omega)).turn pz (nrm_refl es0) pe
    refine k _ t q u zs ts es k4 (by omega) (by rw [pz.length_eq]; omega) (by have := tree_len tr; rw [pe.length_eq]; omega) (by have := tree_len tr; rw [pe.length_eq, pz.length_eq]; omega) gd (fun r hr => ok r (pz.mem_iff.mp hr)) ?_ (TupsAt.gs te s4 g5) (g5.keep s4 eu (ok_refs _)) upd_same ((((g1.trans g2).trans g3).trans g4).trans g5) (s4.stay (same_upd nt))
    exact (g4.trans g5).keep s3 e3 (ok_strs _)
end
end Lamp
set_option maxHeartbeats 4000000
namespace Lamp
open PySem PySem.Spec PyProof.Rows L2
open C8 (InsC)
open LamX (CodeO TabS Tabs ExtN TabB GivesTo tLam lamCx lamEnv LamS)
/-! ### the law (k01) -/
structure TxtL1 (mg : Str → Option Value) : Prop where
  rpr : mg "repr" = none
  list : mg "list" = none
  tup : mg "tuple" = none
  isi : mg "isinstance" = none
  min : mg "min" = none
  max : mg "max" = none
  srt : mg "sorted" = none
  len : mg "len" = none
  range : mg "range" = none
section
variable {P : Program} {w : World} {K : PySem.W.Frag} {mg : Str → Option Value} {base : Heap} {C CR CD CN CM : Addr} {T : List (Addr × Str)}
abbrev rListOf (K : PySem.W.Frag) : List V → Hp → VK → Prop := fun xs H Q => ∃ p ys, xs = [.ref p] ∧ (SqL K H p ys ∨ SqT K H p ys) ∧ ∀ l, H l = none → Q (.ref l) (upd H l (.lst ys))
def spLaw1 (K : PySem.W.Frag) (T : List (Addr × Str)) : Sp := fun vs H Q _ => ∃ (p : Addr) (ns : List Int), vs = [.ref p] ∧ SqL K H p (ns.map V.int) ∧ Tabs T H ∧ ∀ H', Q (.bl true) H'
abbrev NL1 : List Str := ["script", "stream", "turn", "rooms", "doors", "handed", "was", "house", "part", "due", "again", "pair"]
theorem scL1 : FnScope NL1 ["script"] (defScope s_law) := ⟨rfl, rfl, rfl, by decide +kernel, rfl, by decide +kernel, by decide +kernel⟩
theorem pairs_off {H : Hp} {D : Addr} {o : HO} : ∀ {us : List Addr} {es : List Ed}, Paired (fun (u : Addr) (e : Ed) => H u = some (.lst [.str e.1, .str e.2])) us es → (∀ u ∈ us, u ≠ D) → Paired (fun (u : Addr) (e : Ed) => upd H D o u = some (.lst [.str e.1, .str e.2])) us es
  | [], [], .nil, _ => .nil
  | u :: us, e :: es, .cons h q, n => .cons (by rw [upd_ne (n u List.mem_cons_self)]; exact h) (pairs_off q fun x hx => n x (List.mem_cons_of_mem _ hx))
theorem su_refs {H : Hp} : ∀ {us : List Addr} {es : List Ed}, Paired (fun (u : Addr) (e : Ed) => H u = some (.lst [.str e.1, .str e.2])) us es → Paired (SU S0 H) (us.map V.ref) (es.map fun e => [e.1, e.2])
  | [], [], .nil => .nil
  | u :: us, e :: es, .cons h q => .cons ⟨u, _, rfl, h, by show 2 ≤ 12; decide, .cons rfl (.cons rfl .nil)⟩ (su_refs q)
theorem HouseAt.gsN {a l : Addr} {n : Nat} {H H' : Hp} {C h : Addr} {rs : List Str} {ds : List Ed} (hh : HouseAt H C h rs ds) (p : Spr H a l n) (g : GsN a l H H') : HouseAt H' C h rs ds := by
  obtain ⟨dx, ra, da, na, ts, h1, h2, h3, h4, nf, h5, h6⟩ := hh.at_
  exact ⟨dx, ra, da, na, ts, g.keep p h1 rfl (fun _ z => by cases z), g.keep p h2 (ok_strs _) (fun _ z => by cases z), g.keep p h3 (ok_refs _) (fun _ z => by cases z), TupsAt.gsN h4 p g, nf, g.keep p h5 rfl (fun _ z => by cases z), fun r hr => g.keep p (h6 r hr) (ok_strs _) fun _ z => by cases z⟩
theorem Told.gsN {a l n : Nat} {H H' : Hp} {C h p q : Addr} {rs rs' : List Str} {ts : List Addr} {es ds : List Ed} (t : Told H C h p q rs rs' ts es ds) (s : Spr H a l n) (g : GsN a l H H') : Told H' C h p q rs rs' ts es ds :=
  ⟨HouseAt.gsN t.hh s g, g.keep s t.hp (ok_strs _) (fun _ z => by cases z), g.keep s t.hq (ok_refs _) (fun _ z => by cases z), TupsAt.gsN t.ht s g, t.gd, t.gd', t.pm, t.so, t.nr, t.rn, t.asc, t.lrs, t.les, t.nok⟩
theorem tabs_sb {T : List (Addr × Str)} {a l : Addr} {n : Nat} {H H' : Hp} (t : Tabs T H) (p : Spr H a l n) (g : Sb a l H H') : Tabs T H' := fun q hq => by
  obtain ⟨ps, h1, h2, h3⟩ := t q hq
  refine ⟨ps, g.kept p h1 rfl, h2, fun pos cv hc => ?_⟩
  obtain ⟨c, e1, e2⟩ := h3 pos cv hc
  exact ⟨c, e1, g.kept p e2 rfl⟩
theorem min_max {e : Ed} (ne : e.1 ≠ e.2) {m1 m2 : Str} (h1 : m1 ∈ [e.1, e.2]) (l1 : ∀ y ∈ [e.1, e.2], ltS y m1 = false) (h2 : m2 ∈ [e.1, e.2]) (l2 : ∀ y ∈ [e.1, e.2], ltS m2 y = false) : Nrm e (m1, m2) ∧ ltS m1 m2 = true := by
  have tot : ∀ {x y : Str}, x ≠ y → ltS y x = false → ltS x y = true := fun {x y} n h => by
    cases c : ltS x y with
    | true => rfl
    | false => exact absurd (str_tot c h) n
  have a1 := l1 e.1 (by simp)
  have a2 := l1 e.2 (by simp)
  have b1 := l2 e.1 (by simp)
  have b2 := l2 e.2 (by simp)
  rcases List.mem_cons.mp h1 with rfl | h1
  · have t1 := tot ne a2
    rcases List.mem_cons.mp h2 with rfl | h2
    · rw [t1] at b2
      cases b2
    · rw [List.mem_singleton.mp h2]
      exact ⟨.inl rfl, t1⟩
  · rw [List.mem_singleton.mp h1] at a1 a2 ⊢
    have t1 := tot ne.symm a1
    rcases List.mem_cons.mp h2 with rfl | h2
    · exact ⟨.inr rfl, t1⟩
    · rw [List.mem_singleton.mp h2] at b1
      rw [t1] at b1
      cases b1
theorem tg_tups {H : Hp} {a b : Addr} {us vs : List Addr} {es : List Ed} (ha : H a = some (.lst (us.map V.ref))) (hb : H b = some (.lst (vs.map V.ref))) (hu : TupsAt H us es) (hv : TupsAt H vs es) (le : es.length < 100000) : Tg H 4 (.ref a) (.ref b) := by
  have l1 := paired_len hu
  have l2 := paired_len hv
  refine .lst ha hb (by rw [List.length_map, l1]; exact le) (by rw [List.length_map, List.length_map, l1, l2]) fun i x y hx hy => ?_
  rw [List.getElem?_map] at hx hy
  obtain ⟨t, et, rfl⟩ := Option.map_eq_some_iff.mp hx
  obtain ⟨u, eu, rfl⟩ := Option.map_eq_some_iff.mp hy
  obtain ⟨e, ee, te⟩ := paired_at hu et
  obtain ⟨f, ef, tf⟩ := paired_at hv eu
  obtain rfl := Option.some.inj (ee.symm.trans ef)
  exact .tup te tf (by show 2 < 100000; decide) rfl (Tg.two (.sc (.str _)) (.sc (.str _)))
theorem ok_law1 {f fI c : Addr} {fd dI : FuncData} (F : FunC0 K "law" s_law f c fd) (hbd : L2.Binds K fd ["script"] []) (TY : TxtL1 mg) (ET : EqT P w K mg base C) (MH : HasH P w K mg base C) (MD : DoorsOf P w K mg base C)
    (LN : ∃ (f : Addr) (fd : FuncData), PySem.W.findIn K (.ref C) "__len__" = some (some (.ref f)) ∧ PySem.W.isFn K (.ref f) = true ∧ FnOk P w K mg base CX0 1 f fd ["self"] (spLenH C) ∧ L2.Binds K fd ["self"] [])
    (SO : Stands P w K mg base 1 "_law_start" ["script"] (spStart K)) (HO : Stands P w K mg base 4 "_law_h_house" ["stream", "most"] spHHouseT) (PO : Stands P w K mg base 2 "_law_pick" ["stream", "some"] spPickV)
    (LO : Stands P w K mg base 3 "_law_loose" ["stream", "thing"] (spLoose (SU (SU S0)) (RU (RU R0)) 13)) (EO : Stands P w K mg base 6 "_law_same" ["found", "due"] (spSG 5))
    (RO : Stands P w K mg base 10 "_law_refused_right" ["stream", "rooms", "doors"] (spRefR T)) (AO : Stands P w K mg base 10 "_law_apart_right" ["stream", "rooms", "doors"] (spRefR T))
    (BO : Stands P w K mg base 10 "_law_beside_right" ["house", "rooms", "doors"] (spBsR C T)) (QO : Stands P w K mg base 10 "_law_equal_right" ["stream", "house", "rooms", "doors"] (spEqR C))
    (M : Mk K C fI) (GI : FnOk P w K mg base CX0 4 fI dI ["self", "rooms", "doors"] (spInitG K C)) (mC : mg "House" = some (.ref C)) (bI : L2.Binds K dI ["self", "rooms", "doors"] []) :
    FnG P w K mg base 11 f ["script"] (spLaw1 K T) := by
  obtain ⟨fs, dS, Gs', ms, ks, bs⟩ := SO
  obtain ⟨fh, dh, Gh, mh, kh, bh⟩ := HO
  obtain ⟨fp, dp, Gp, mp, kp, bp⟩ := PO
  obtain ⟨fl, dl, Gl', ml, kl, bl⟩ := LO
  obtain ⟨fe, de, Ge, me, ke, be⟩ := EO
  obtain ⟨fr, dr, Gr', mr, kr, br⟩ := RO
  obtain ⟨fa, da, Ga, ma, ka, ba⟩ := AO
  obtain ⟨fb, db, Gb, mb, kb, bb⟩ := BO
  obtain ⟨fq, dq, Gq, mq, kq, bq⟩ := QO
  obtain ⟨f1, d1, mro, Gro, bro⟩ := MH.rooms
  obtain ⟨f2, d2, mdo, Gdo, bdo⟩ := MD
  obtain ⟨f3, d3, hln, hlf, Gln, bln⟩ := LN
  refine fnG_c (F : FunC0 K "law" s_law f c fd) scL1 (fun vs H Q E h => ?_) hbd (fun A outer s H vs Q hG hr h => ?_)
  · obtain ⟨p, ns, rfl, _⟩ := h
    rfl
  · obtain ⟨p, ns, rfl, hs, tT, k⟩ := h
    have hu2 : (A.deeper (envOfC (Str.ofString "law") (defScope s_law) s.heap.objs.size f (.ref c))).units + 64 < cLine := by
      have := hr.un
      omega
    refine ⟨_, pss_cons (ps_set (i := 1) scL1.nd rfl (Or.inl rfl) (pe_call Gs' (hr.mono (by decide)) (by rfl) ms ks bs .nil pass0 (pa_cons (pv 0) pa_nil)))
      (pss_cons (ps_for PassesOwn.never rfl (pi_range1 rfl TY.range (pa_cons pe_int pa_nil)) (pg_name (i := 2) scL1.nd rfl (Or.inl rfl))
        (pss_cons (ps_asg (pe_call Gh (hr.mono (by decide)) (by rfl) mh kh bh .nil pass0 (pa_cons (pv 1) (pa_cons pe_int pa_nil))) (pg_tup rfl (pgs_cons (pg_name (i := 3) scL1.nd rfl (Or.inl rfl)) (pgs_cons (pg_name (i := 4) scL1.nd rfl (Or.inl rfl)) pgs_nil))))
        (pss_cons (ps_set (i := 5) scL1.nd rfl (Or.inl rfl) (pe_lst (pa_cons (pe_call Gp (hr.mono (by decide)) (by rfl) mp kp bp .nil pass0 (pa_cons (pv 1) (pa_cons (pe_lst (pa_cons (pe_callTy call_list_of (by rfl) TY.list (by decide +kernel) (pa_cons (pv 3) pa_nil)) (pa_cons (pe_callTy call_tuple_of (by rfl) TY.tup (by decide +kernel) (pa_cons (pv 3) pa_nil)) pa_nil))) pa_nil)))
          (pa_cons (pe_call Gl' (hr.mono (by decide)) (by rfl) ml kl bl .nil pass0 (pa_cons (pv 1) (pa_cons (pe_lc (te := tCB (rListOf K) (tCons (tVar 11) tNil)) (own := [("pair", 11)]) (g := gName 11) (tt := tYes) rfl scL1.nd (pi_list (pv 4)) (blkOk_by (N := NL1) (sc := defScope s_law) (by decide +kernel))
            (fun _ _ _ _ _ => pg_name (i := 11) scL1.nd rfl (Or.inl rfl)) (fun _ _ _ _ _ => pts_nil) (fun _ _ _ _ _ => by exact (pe_callTy call_list_of (by rfl) TY.list (by decide +kernel) (pa_cons (pv 11) pa_nil)))) pa_nil))) pa_nil))))
        (pss_cons (ps_par (i := 6) (j := 7) (by rfl) scL1.nd rfl rfl (by decide) rfl rfl (pa_cons (pe_callB (call_reprDp hG hu2) (by rfl) TY.rpr PyProof.Rows.Boot.repr (pa_cons (pv 5) pa_nil)) (pa_cons (pe_make M GI (hr.mono (by decide)) (by rfl) mC bI .nil pass0 (pa_cons (pe_ix ix_list (pv 5) pe_int (fun _ _ => rfl)) (pa_cons (pe_ix ix_list (pv 5) pe_int (fun _ _ => rfl)) pa_nil))) pa_nil)) (by rfl))
        (pss_cons (ps_if (pt_cmpR op_ne (pe_callB (call_reprDp hG hu2) (by rfl) TY.rpr PyProof.Rows.Boot.repr (pa_cons (pv 5) pa_nil)) (pv 6) (nomark _)) pss_dead pss_nil)
        (pss_cons (ps_for PassesOwn.never rfl (pi_list (pv 5)) (pg_name (i := 8) scL1.nd rfl (Or.inl rfl))
          (pss_one (ps_if (pt_val (pe_callB call_isi (by rfl) TY.isi PyProof.Rows.Boot.isinstance (pa_cons (pv 8) (pa_cons (pe_bltn (v := .ty "list") (by rfl) TY.list PyProof.Rows.Boot.list rfl) pa_nil))))
            (pss_one (ps_expr (pe_bm PySem.F.plainAttrs_list PySem.F.slot_list_append PySem.F.type_list_append mt_append (pv 8) (pa_cons pe_str pa_nil) (by rfl) (by rfl)))) pss_nil)))
        (pss_cons (ps_set (i := 9) scL1.nd rfl (Or.inl rfl) (pe_callB cr_sortTwoO (by rfl) TY.srt PyProof.Rows.boot_sorted (pa_cons
          (pe_lc (te := tTup (tCons (tCB (rMinT K) (tCons (tVar 11) tNil)) (tCons (tCB (rMaxT K) (tCons (tVar 11) tNil)) tNil))) (own := [("pair", 11)]) (g := gName 11) (tt := tYes) rfl scL1.nd (pi_list (pv 4)) (blkOk_by (N := NL1) (sc := defScope s_law) (by decide +kernel))
            (fun _ _ _ _ _ => pg_name (i := 11) scL1.nd rfl (Or.inl rfl)) (fun _ _ _ _ _ => pts_nil)
            (fun _ _ _ _ _ => by exact (pe_tup (pa_cons (pe_callB (cr_minT rfl) (by rfl) TY.min PyProof.Rows.Boot.min (pa_cons (pv 11) pa_nil)) (pa_cons (pe_callB (cr_maxT rfl) (by rfl) TY.max PyProof.Rows.Boot.max (pa_cons (pv 11) pa_nil)) pa_nil))))) pa_nil)))
        (pss_cons (ps_for PassesOwn.never rfl (pi_range1 rfl TY.range (pa_cons pe_int pa_nil)) (pg_name (i := 10) scL1.nd rfl (Or.inl rfl))
          (pss_cons (ps_if (PW.pt (pw_or (pt_not (pt_val (pe_call Ge (hr.mono (by decide)) (by rfl) me ke be .nil pass0 (pa_cons (pe_lst (pa_cons (pe_meth0 (pv 7) MH.cls.cls mro Gro (hr.mono (by decide)) bro .nil pass0) (pa_cons (pe_meth0 (pv 7) MH.cls.cls mdo Gdo (hr.mono (by decide)) bdo .nil pass0) pa_nil)))
                (pa_cons (pe_lst (pa_cons (pe_callB cr_sortedS (by rfl) TY.srt PyProof.Rows.boot_sorted (pa_cons (pv 3) pa_nil)) (pa_cons (pv 9) pa_nil))) pa_nil)))))
              (pw_or1 (pt_cmpR op_ne (pe_callB (call_len_own Gln hln hlf bln (hr.mono (by decide))) (by rfl) TY.len PySem.boot_len (pa_cons (pv 7) pa_nil)) (pe_callB call_len_seq (by rfl) TY.len PySem.boot_len (pa_cons (pv 3) pa_nil)) (nomark _))))) pss_dead pss_nil)
          (pss_cons (ps_expr (pe_bm PySem.F.plainAttrs_list PySem.F.slot_list_append PySem.F.type_list_append mt_append (pe_meth0 (pv 7) MH.cls.cls mro Gro (hr.mono (by decide)) bro .nil pass0) (pa_cons pe_str pa_nil) (by rfl) (by rfl)))
          (pss_one (ps_expr (pe_bm0 PySem.F.plainAttrs_list PySem.F.slot_list_clear PySem.F.type_list_clear mt_clear (pe_meth0 (pv 7) MH.cls.cls mdo Gdo (hr.mono (by decide)) bdo .nil pass0)))))))
        (pss_cons (ps_if (PW.pt (pw_or (pt_not (pt_val (pe_call Gr' hr (by rfl) mr kr br .nil pass0 (pa_cons (pv 1) (pa_cons (pv 3) (pa_cons (pv 4) pa_nil)))))) (pw_or1 (pt_not (pt_val (pe_call Ga hr (by rfl) ma ka ba .nil pass0 (pa_cons (pv 1) (pa_cons (pv 3) (pa_cons (pv 4) pa_nil)))))))))
          pss_dead pss_nil)
        (pss_one (ps_if (PW.pt (pw_or (pt_not (pt_val (pe_call Gb hr (by rfl) mb kb bb .nil pass0 (pa_cons (pv 7) (pa_cons (pv 3) (pa_cons (pv 4) pa_nil)))))) (pw_or1 (pt_not (pt_val (pe_call Gq hr (by rfl) mq kq bq .nil pass0 (pa_cons (pv 1) (pa_cons (pv 7) (pa_cons (pv 3) (pa_cons (pv 4) pa_nil))))))))))
          pss_dead pss_nil)))))))))))
      (pss_one (ps_ret pe_bl))), ?_⟩
    refine ⟨_, rfl, p, ns, rfl, hs, fun H1 a l s1 na nl sp1 => ?_⟩
    refine ⟨6, rfl, by decide, by decide, ?_⟩
    refine for_range (lo := 0) (n := 6) (fun i σ' H' => ∃ (v2 v3 v4 v5 v6 v7 v8 v9 v10 : Option V) (n : Nat), σ' = [some (.ref p), some (.ref a), v2, v3, v4, v5, v6, v7, v8, v9, v10, none] ∧ Spr H' a l n ∧ n ≤ 1000 * i ∧ Tabs T H') ⟨_, _, _, _, _, _, _, _, _, 0, rfl, sp1, by omega, tT.ext s1⟩ ?_ ?_
    · rintro i σ' H2 hi ⟨v2, v3, v4, v5, v6, v7, v8, v9, v10, n, rfl, q1, q2, q3⟩
      refine ⟨_, rfl, a, l, n, 10, rfl, q1, by omega, by omega, by omega, fun H3 t pr pd rs ts es m mb rl el lee gd nok er te ed et g3 s3 => ?_⟩
      have ok : ∀ r ∈ rs, nameOk r = true := fun r hr => (nok r hr).1
      have tb3 := Tabs.gs q3 q1 g3
      have lts : ts.length = es.length := paired_len te
      refine ⟨t, _, rfl, SqT.of et, rfl, _, _, rfl, _, _, rfl, rfl, ?_⟩
      -- handed
      refine ⟨_, rfl, _, rfl, pr, _, rfl, .inl (SqL.of er), fun L0 nL0 => ?_⟩
      have gH4 : Gr H3 (upd H3 L0 (.lst (rs.map V.str))) := Gr.upd nL0
      have eL0 : upd H3 L0 (.lst (rs.map V.str)) L0 = some (.lst (rs.map V.str)) := upd_same
      generalize upd H3 L0 (.lst (rs.map V.str)) = H4 at gH4 eL0 ⊢
      refine ⟨_, rfl, pr, _, rfl, .inl ⟨SqL.of (gH4.s _ _ er), fun T0 nT0 => ?_⟩⟩
      have gH5 : Gr H4 (upd H4 T0 (.tup (rs.map V.str))) := Gr.upd nT0
      have eT0 : upd H4 T0 (.tup (rs.map V.str)) T0 = some (.tup (rs.map V.str)) := upd_same
      generalize upd H4 T0 (.tup (rs.map V.str)) = H5 at gH5 eT0 ⊢
      refine ⟨(by show 2 ≤ sizeLine; decide), fun PL nPL => ?_⟩
      have gH6 : Gr H5 (upd H5 PL (.lst [.ref L0, .ref T0])) := Gr.upd nPL
      have ePL : upd H5 PL (.lst [.ref L0, .ref T0]) PL = some (.lst [.ref L0, .ref T0]) := upd_same
      generalize upd H5 PL (.lst [.ref L0, .ref T0]) = H6 at gH6 ePL ⊢
      have g36 := (gH4.trans gH5).trans gH6
      have s6 := s3.stay g36.s
      have nPL3 := (gH4.trans gH5).n _ nPL
      refine ⟨a, l, PL, m, _, rfl, s6, ePL, s3.na nPL3, s3.nl nPL3, (by intro z; cases z), by omega, (by show 2 < 1000000; decide), fun H7 v0 mv0 g7 s7 => ?_⟩
      obtain ⟨V0, rfl, nV0, eV0⟩ : ∃ V0, v0 = .ref V0 ∧ H3 V0 = none ∧ (H7 V0 = some (.lst (rs.map V.str)) ∨ H7 V0 = some (.tup (rs.map V.str))) := by
        rcases List.mem_cons.mp mv0 with rfl | mv
        · exact ⟨L0, rfl, nL0, .inl (g7.keep s6 ((gH5.trans gH6).s _ _ eL0) (ok_strs _))⟩
        · rw [List.mem_singleton.mp mv]
          exact ⟨T0, rfl, gH4.n _ nT0, .inr (g7.keep s6 (gH6.s _ _ eT0) rfl)⟩
      have g37 := g36.gs.trans g7
      have er7 := g37.keep s3 er (ok_strs _)
      have ed7 := g37.keep s3 ed (ok_refs _)
      have te7 := TupsAt.gs te s3 g37
      clear eL0 eT0 ePL mv0
      refine ⟨_, rfl, _, rfl, pd, rfl, ⟨_, SqL.of ed7⟩, fun D hD => ?_⟩
      refine lc_it (walk_list (xs := ts.map V.ref)) (fun j H' => ∃ us : List Addr, H' D = some (.lst (us.map V.ref)) ∧ Paired (fun (u : Addr) (e : Ed) => H' u = some (.lst [.str e.1, .str e.2])) us (es.take j) ∧ (∀ u ∈ us, u ≠ D) ∧ Gr H7 H') ⟨[], upd_same, .nil, (fun u hu => by cases hu), Gr.upd hD⟩ (fun j H' _ ⟨us, w1, w2, w3, w4⟩ => SqL.of (w4.s _ _ ed7)) ?_ ?_
      · rintro j v H' H'' hj ⟨us, w1, w2, w3, w4⟩ ⟨rfl, hv⟩
        rw [List.getElem?_map] at hv
        obtain ⟨t1, et1, rfl⟩ := Option.map_eq_some_iff.mp hv
        obtain ⟨e, ee, te1⟩ := paired_at te7 et1
        refine ⟨rfl, _, rfl, t1, _, rfl, .inr (SqT.of (w4.s _ _ te1)), fun U nU => ?_⟩
        have gU : Gr H'' (upd H'' U (.lst [.str e.1, .str e.2])) := Gr.upd nU
        have eU : upd H'' U (.lst [.str e.1, .str e.2]) U = some (.lst [.str e.1, .str e.2]) := upd_same
        generalize upd H'' U (.lst [.str e.1, .str e.2]) = N at gU eU ⊢
        have nUD : U ≠ D := fun z => by
          rw [z, w1] at nU
          cases nU
        have tk : es.take (j + 1) = es.take j ++ [e] := by
          rw [List.take_add_one, ee]
          rfl
        have w2' : Paired (fun (u : Addr) (e : Ed) => N u = some (.lst [.str e.1, .str e.2])) (us ++ [U]) (es.take (j + 1)) := by
          rw [tk]
          exact paired_snoc (R := fun (u : Addr) (e : Ed) => N u = some (.lst [.str e.1, .str e.2])) (a := U) (b := e) eU (Paired.imp (fun _ _ q => gU.s _ _ q) w2)
        have neD : ∀ u ∈ us ++ [U], u ≠ D := fun u hu => by
          rcases List.mem_append.mp hu with hu | hu
          · exact w3 u hu
          · rw [List.mem_singleton.mp hu]
            exact nUD
        refine ⟨_, gU.s _ _ w1, ?_, us ++ [U], ?_, pairs_off w2' neD, neD, (w4.trans gU).put hD⟩
        · rw [List.length_map, paired_len w2, List.length_take]
          exact Nat.lt_of_le_of_lt (Nat.min_le_right _ _) (Nat.lt_trans el (by decide))
        · rw [upd_same, List.map_append]
          rfl
      rintro H8 ⟨us, w1, w2, w3, w4⟩
      rw [List.length_map, lts, List.take_length] at w2
      have s8 := s7.stay w4.s
      have lus : us.length = es.length := paired_len w2
      have su8 : SU (SU S0) H8 (.ref D) (es.map fun e => [e.1, e.2]) := ⟨D, us.map V.ref, rfl, w1, by rw [List.length_map, lus]; omega, su_refs w2⟩
      refine ⟨a, l, m + 1, .ref D, _, rfl, s8, su8, by omega, fun H9 u c9 lc9 ru9 g9 s9 => ?_⟩
      have I1 := itemU item0
      have I2 := itemU I1
      have ru9c := ru9
      obtain ⟨U, ws, rfl, nU, eU9, pU9⟩ := ru9c
      have g79 : Gs a l H7 H9 := w4.gs.trans g9
      have eV9 : H9 V0 = some (.lst (rs.map V.str)) ∨ H9 V0 = some (.tup (rs.map V.str)) := eV0.imp (fun h => g79.keep s7 h (ok_strs _)) fun h => g79.keep s7 h rfl
      refine ⟨(by show 2 ≤ sizeLine; decide), fun HL nHL => ?_⟩
      have gB1 : Gr H9 (upd H9 HL (.lst [.ref V0, .ref U])) := Gr.upd nHL
      have eHL : upd H9 HL (.lst [.ref V0, .ref U]) HL = some (.lst [.ref V0, .ref U]) := upd_same
      generalize upd H9 HL (.lst [.ref V0, .ref U]) = B1 at gB1 eHL ⊢
      have vHL : V0 ≠ HL := fun z => by
        rw [z, nHL] at eV9
        rcases eV9 with h | h <;> cases h
      have uHL : U ≠ HL := fun z => by
        rw [z, nHL] at eU9
        rcases eU9 with h | h <;> cases h
      have g7B := g79.trans gB1.gs
      have sB := s9.stay gB1.s
      have eVB : B1 V0 = some (.lst (rs.map V.str)) ∨ B1 V0 = some (.tup (rs.map V.str)) := eV9.imp (fun h => gB1.s _ _ h) fun h => gB1.s _ _ h
      have eUB : B1 U = some (.lst ws) ∨ B1 U = some (.tup ws) := eU9.imp (fun h => gB1.s _ _ h) fun h => gB1.s _ _ h
      have erB := g7B.keep s7 er7 (ok_strs _)
      have edB := g7B.keep s7 ed7 (ok_refs _)
      have teB := TupsAt.gs te7 s7 g7B
      have ruB : RU (RU R0) H8 B1 (.ref U) (es.map fun e => [e.1, e.2]) := I2.rgs ru9 s9 gB1.gs
      have lws : ws.length = es.length := by rw [paired_len pU9, List.length_map]
      -- shown
      obtain ⟨d0, dp0, sh0⟩ : ∃ d0, DpS K B1 (.ref V0) d0 ∧ Shw d0 2 1000 := by
        have nm : ∀ d ∈ rs.map PyData.str, Shw d 0 12 := fun d hd => by
          obtain ⟨z, mz, rfl⟩ := List.mem_map.mp hd
          exact Shw.name (ok z mz)
        have lb : (rs.map PyData.str).length * (12 + 1) ≤ 1000 := by
          rw [List.length_map]
          omega
        rcases eVB with h | h
        · exact ⟨_, fun H' s' => .lst (SqL.of (s' _ _ h)) (dpAll_strs rs), (Shw.list nm).mono (by decide) lb⟩
        · exact ⟨_, fun H' s' => .tup (SqT.of (s' _ _ h)) (dpAll_strs rs), (Shw.tup nm).mono (by decide) lb⟩
      obtain ⟨dU, dpU, shU⟩ : ∃ dU, DpS K B1 (.ref U) dU ∧ Shw dU 2 3000 := by
        have it0 : ∀ (v : V) (x : List Str), x ∈ (es.map fun e => [e.1, e.2]) → RU R0 H8 B1 v x → ∃ d, DpS K B1 v d ∧ Shw d 1 (12 * (12 + 1)) := fun v x hx rv => by
          obtain ⟨e, he, rfl⟩ := List.mem_map.mp hx
          have en := gd.ends e he
          refine ru_dp (K := K) (k := 0) (b := 12) rv (by show 2 ≤ 12; decide) fun u y hy hu => ?_
          obtain rfl : u = .str y := hu
          refine ⟨.str y, fun H' s' => .str y, Shw.name ?_⟩
          rcases List.mem_cons.mp hy with rfl | hy
          · exact ok _ en.1
          · rw [List.mem_singleton.mp hy]
            exact ok _ en.2.1
        obtain ⟨dU, h1, h2⟩ := ru_dp (K := K) (k := 1) (b := 12 * (12 + 1)) ruB (by rw [List.length_map]; omega) it0
        exact ⟨dU, h1, h2.mono (by decide) (by decide)⟩
      have shH : Shw (.list [d0, dU]) 10 100000 := (Shw.list (k := 2) (b := 3000) fun d hd => by
        rcases List.mem_cons.mp hd with rfl | hd
        · exact sh0.mono (by decide) (by decide)
        · rw [List.mem_singleton.mp hd]
          exact shU).mono (by decide) (by show 2 * (3000 + 1) ≤ 100000; decide)
      obtain ⟨fd1, fd2⟩ := shH.fits (by decide)
      have dpH : ∀ G, Same B1 G → Dp K G (.ref HL) (.list [d0, dU]) := fun G s' => .lst (SqL.of (s' _ _ eHL)) (.cons (dp0 G s') (.cons (dpU G s') .nil))
      refine ⟨_, rfl, HL, _, rfl, dpH B1 fun _ _ e => e, shH.sh, shH.nd, fd1, fd2, ?_⟩
      refine ⟨_, rfl, HL, _, 0, .ref V0, rfl, rfl, SqL.of eHL, rfl, _, rfl, HL, _, 1, .ref U, rfl, rfl, SqL.of eHL, rfl, ?_⟩
      intro x dx nx ndx nex
      have t0 := made_same (C := C) nx ndx
      have rowV : RowA K (upd (upd B1 dx (.own x)) x (.ins C dx [])) V0 (rs.map V.str) := by
        rcases eVB with h | h
        · exact .inl ⟨SqL.of (t0 _ _ h), fun H' s' => .base (.lst (s' _ _ (t0 _ _ h)))⟩
        · exact .inr ⟨SqT.of (t0 _ _ h), fun H' s' => .base (.tup (s' _ _ (t0 _ _ h)))⟩
      have pUB : Paired (RU R0 H8 B1) ws (es.map fun e => [e.1, e.2]) := Paired.imp (fun _ _ r => I1.rgs r s9 gB1.gs) pU9
      have drU : DoorsAt K (upd (upd B1 dx (.own x)) x (.ins C dx [])) rs U es := by
        have h0 : DoorsAt K B1 rs U es := by
          refine ⟨ws, ?_, ru_doors pUB gd.ends⟩
          rcases eUB with h | h
          · exact .inl ⟨SqL.of h, fun H' s' => .base (.lst (s' _ _ h))⟩
          · exact .inr ⟨SqT.of h, fun H' s' => .base (.tup (s' _ _ h))⟩
        exact h0.up t0
      refine ⟨x, dx, V0, U, rs, es, rfl, upd_same, rowV, drU, gd, ok, fun C1 rs' ds pm so gd' nr asc rn own gx => ⟨rfl, _, _, rfl, ?_⟩⟩
      have sBC : Same B1 C1 := made_gx nx ndx gx
      have nBC : ∀ b, C1 b = none → B1 b = none := fun b z => (none_upd (none_upd (gx.n b z)).2).2
      refine ⟨_, rfl, HL, _, rfl, dpH C1 sBC, shH.sh, shH.nd, fd1, fd2, _, rfl, rfl, _, rfl, iteF2 (by simp) ?_⟩
      -- what was handed is changed
      have eHC := sBC _ _ eHL
      refine ⟨_, rfl, HL, rfl, ⟨_, SqL.of eHC⟩, ?_⟩
      refine for_it (walk_list (xs := [.ref V0, .ref U])) (fun j σ' H' => ∃ v8 : Option V, σ' = [some (.ref p), some (.ref a), some (.int (0 + (i : Int))), some (.ref pr), some (.ref pd), some (.ref HL), some (.str (PyData.list [d0, dU]).shown), some (.ref x), v8, v9, v10, none] ∧ (∀ b o, b ≠ V0 → b ≠ U → C1 b = some o → H' b = some o) ∧ (∀ b, H' b = none → C1 b = none) ∧ ∀ v ∈ [V.ref V0, .ref U], ∃ q ws, v = .ref q ∧ (H' q = some (.lst ws) ∨ H' q = some (.tup ws)) ∧ ws.length ≤ 30 + j) ?_ ?_ ?_ ?_
      · refine ⟨_, rfl, fun b o _ _ e => e, fun b z => z, fun v hv => ?_⟩
        rcases List.mem_cons.mp hv with rfl | hv
        · exact ⟨V0, _, rfl, eVB.imp (fun h => sBC _ _ h) (fun h => sBC _ _ h), by rw [List.length_map]; omega⟩
        · rw [List.mem_singleton.mp hv]
          exact ⟨U, _, rfl, eUB.imp (fun h => sBC _ _ h) (fun h => sBC _ _ h), by omega⟩
      · rintro j σ' H' _ ⟨v8, rfl, k1, k2, k3⟩
        exact SqL.of (k1 _ _ vHL.symm uHL.symm eHC)
      · rintro j v σ' H' H'' hj ⟨v8, rfl, k1, k2, k3⟩ ⟨rfl, hv⟩
        have mv := List.mem_of_getElem? hv
        obtain ⟨z, wz, rfl, hz, lz⟩ := k3 v mv
        have hj2 : j < 2 := hj
        rcases hz with hz | hz
        · refine ⟨_, rfl, .ref z, .ty "list", _, _, true, rfl, .ty _, .base (.lst hz), kit_ty (by decide +kernel), true, rfl, iteT ?_⟩
          refine ⟨_, rfl, .inl ⟨rfl, _, SqL.of hz⟩, z, _, .str "late", rfl, rfl, hz, Nat.lt_of_le_of_lt lz (Nat.lt_of_le_of_lt (show 30 + j ≤ 32 by omega) (by decide)), ?_⟩
          have mz : z = V0 ∨ z = U := by
            rcases List.mem_cons.mp mv with e | e
            · exact .inl (V.ref.inj e)
            · exact .inr (V.ref.inj (List.mem_singleton.mp e))
          refine ⟨_, rfl, fun b o n1 n2 e => ?_, fun b q => k2 b (none_upd q).2, fun v' hv' => ?_⟩
          · rw [upd_ne (fun q => mz.elim (fun e => n1 (q.trans e)) fun e => n2 (q.trans e))]
            exact k1 b o n1 n2 e
          · obtain ⟨y, wy, rfl, hy, ly⟩ := k3 v' hv'
            by_cases c : y = z
            · subst c
              refine ⟨y, wz ++ [.str "late"], rfl, .inl upd_same, ?_⟩
              rw [List.length_append]
              show wz.length + 1 ≤ _
              omega
            · refine ⟨y, wy, rfl, ?_, by omega⟩
              rw [upd_ne c]
              exact hy
        · refine ⟨_, rfl, .ref z, .ty "list", _, _, false, rfl, .ty _, .base (.tup hz), kit_ty (by decide +kernel), false, rfl, iteF ?_⟩
          exact ⟨_, rfl, k1, k2, fun v' hv' => by
            obtain ⟨y, wy, e1, e2, e3⟩ := k3 v' hv'
            exact ⟨y, wy, e1, e2, by omega⟩⟩
      rintro σ' H10 ⟨v8, rfl, k1, k2, _⟩
      -- all else stands
      have g8B : Gs a l H8 B1 := g9.trans gB1.gs
      have g3B : Gs a l H3 B1 := g37.trans g7B
      have offU : ∀ b o, H3 b = some o → b ≠ U := fun b o e z => by
        have h8 := (g37.trans w4.gs).n b (by rw [z]; exact nU)
        rw [e] at h8
        cases h8
      have g310 : Gs a l H3 H10 := ⟨fun b o e n1 n2 => k1 b o (ne_of_none e nV0) (offU b o e) (sBC _ _ (g3B.s b o e n1 n2)), fun b z => g3B.n _ (nBC _ (k2 _ z))⟩
      have s10 : Spr H10 a l c9 := by
        obtain ⟨ne, cs, cur, mix, h1, h2, h3, h4⟩ := sB
        obtain ⟨oa, ha⟩ := s3.ra
        obtain ⟨ol, hl⟩ := s3.rl
        exact ⟨ne, cs, cur, mix, k1 _ _ (ne_of_none ha nV0) (offU _ _ ha) (sBC _ _ h1), k1 _ _ (ne_of_none hl nV0) (offU _ _ hl) (sBC _ _ h2), h3, h4⟩
      have bV : ∀ b, (upd (upd B1 dx (.own x)) x (.ins C dx []) b = none ∨ b = x) → b ≠ V0 ∧ b ≠ U := fun b nb => by
        rcases nb with nb | rfl
        · refine ⟨fun z => ?_, fun z => ?_⟩
          · rw [z] at nb
            rcases eVB with h | h
            · rw [t0 _ _ h] at nb
              cases nb
            · rw [t0 _ _ h] at nb
              cases nb
          · rw [z] at nb
            rcases eUB with h | h
            · rw [t0 _ _ h] at nb
              cases nb
            · rw [t0 _ _ h] at nb
              cases nb
        · refine ⟨fun z => ?_, fun z => ?_⟩
          · rw [z] at nx
            rcases eVB with h | h
            · rw [h] at nx
              cases nx
            · rw [h] at nx
              cases nx
          · rw [z] at nx
            rcases eUB with h | h
            · rw [h] at nx
              cases nx
            · rw [h] at nx
              cases nx
      have td : Told H10 C x pr pd rs rs' ts es ds := ⟨own H10 fun b o nb e => k1 b o (bV b nb).1 (bV b nb).2 e, g310.keep s3 er (ok_strs _), g310.keep s3 ed (ok_refs _), TupsAt.gs te s3 g310, gd, gd', pm, so, nr, rn, asc, rl, el, nok⟩
      have tb10 := Tabs.gs tb3 s3 g310
      clear k1 k2 bV offU g8B g3B eVB eUB eHC rowV drU pUB ruB ru9 eU9 eV9 pU9 own dpH dp0 dpU
      -- due
      refine ⟨_, rfl, pd, rfl, ⟨_, SqL.of td.hq⟩, fun D2 hD2 => ?_⟩
      refine lc_it (walk_list (xs := ts.map V.ref)) (fun j H' => ∃ (us : List Addr) (dd : List Ed), H' D2 = some (.lst (us.map V.ref)) ∧ TupsAt H' us dd ∧ Paired Nrm (es.take j) dd ∧ Gr H10 H' ∧ ∀ d ∈ dd, ltS d.1 d.2 = true) ⟨[], [], upd_same, .nil, .nil, Gr.upd hD2, fun d hd => by cases hd⟩ (fun j H' _ ⟨us, dd, w1, w2, w3, w4, w5⟩ => SqL.of (w4.s _ _ td.hq)) ?_ ?_
      · rintro j v H' H'' hj ⟨us, dd, w1, w2, w3, w4, w5⟩ ⟨rfl, hv⟩
        rw [List.getElem?_map] at hv
        obtain ⟨t1, et1, rfl⟩ := Option.map_eq_some_iff.mp hv
        obtain ⟨e, ee, te1⟩ := paired_at td.ht et1
        have te2 := w4.s _ _ te1
        have en := gd.ends e (List.mem_of_getElem? ee)
        refine ⟨rfl, _, rfl, t1, [e.1, e.2], rfl, SqT.of te2, (by intro z; cases z), fun m1 mm1 least => ?_⟩
        refine ⟨_, rfl, t1, [e.1, e.2], rfl, SqT.of te2, (by intro z; cases z), fun m2 mm2 most => ?_⟩
        obtain ⟨nd, ls⟩ : Nrm e (m1, m2) ∧ ltS m1 m2 = true := min_max en.2.2 mm1 least mm2 most
        refine ⟨by show 2 ≤ sizeLine; decide, fun Z nZ => ?_⟩
        have gZ : Gr H'' (upd H'' Z (.tup [.str m1, .str m2])) := Gr.upd nZ
        have eZ : upd H'' Z (.tup [.str m1, .str m2]) Z = some (.tup [.str m1, .str m2]) := upd_same
        generalize upd H'' Z (.tup [.str m1, .str m2]) = N at gZ eZ ⊢
        have tk : es.take (j + 1) = es.take j ++ [e] := by
          rw [List.take_add_one, ee]
          rfl
        have w1' := gZ.s _ _ w1
        refine ⟨_, w1', ?_, us ++ [Z], dd ++ [(m1, m2)], ?_, tups_putD (paired_snoc (R := fun (t : Addr) (e : Ed) => N t = some (.tup [.str e.1, .str e.2])) (a := Z) (b := (m1, m2)) eZ (tups_up w2 gZ.s)) w1', ?_, (w4.trans gZ).put hD2, fun d hd => ?_⟩
        · rw [List.length_map, paired_len w2, ← paired_len w3, List.length_take]
          exact Nat.lt_of_le_of_lt (Nat.min_le_right _ _) (Nat.lt_trans el (by decide))
        · rw [upd_same, List.map_append]
          rfl
        · rw [tk]
          exact paired_snoc nd w3
        · rcases List.mem_append.mp hd with hd | hd
          · exact w5 d hd
          · rw [List.mem_singleton.mp hd]
            exact ls
      rintro H11 ⟨us, dd, w1, w2, w3, w4, w5⟩
      rw [List.length_map, lts, List.take_length] at w3
      refine ⟨D2, us, dd, rfl, SqL.of w1, w2, fun us' ds' da pu pd0 q5 ord nda => ?_⟩
      have gdd : GoodH rs' ds' := gd.turn pm w3 pd0
      have ascd : Asc ds' := ⟨ord, fun d hd => w5 d (pd0.mem_iff.mp hd)⟩
      have eds : ds' = ds := doors_one gdd gd' ascd asc (fun e he => let ⟨d, hd, n⟩ := nrm_l w3 e he; ⟨d, pd0.mem_iff.mpr hd, n⟩) (fun d hd => nrm_r w3 d (pd0.mem_iff.mp hd)) nr rn (fun e he => ⟨e, he, .inl rfl⟩) fun e he => ⟨e, he, .inl rfl⟩
      subst eds
      have g12 : Gr H11 (upd H11 da (.lst (us'.map V.ref))) := Gr.upd nda
      have eda : upd H11 da (.lst (us'.map V.ref)) da = some (.lst (us'.map V.ref)) := upd_same
      replace q5 := tups_up q5 g12.s
      generalize upd H11 da (.lst (us'.map V.ref)) = H12 at g12 eda q5 ⊢
      have g1012 := w4.trans g12
      have td12 := td.extN g1012.extN
      -- told twice
      refine ⟨2, rfl, by decide, by decide, ?_⟩
      refine for_range (lo := 0) (n := 2) (fun j σ' H' => ∃ v10 : Option V, σ' = [some (.ref p), some (.ref a), some (.int (0 + (i : Int))), some (.ref pr), some (.ref pd), some (.ref HL), some (.str (PyData.list [d0, dU]).shown), some (.ref x), v8, some (.ref da), v10, none] ∧ Same H12 H') ⟨_, rfl, fun _ _ e => e⟩ ?_ ?_
      · rintro j σ' H' hj ⟨v10, rfl, sm⟩
        have tdj := td12.extN (ExtN.of sm)
        obtain ⟨dxx, raa, daa, naa, tss, hxx, _⟩ := tdj.hh.at_
        refine ⟨_, rfl, x, _, _, rfl, hxx, by rfl, x, rs', ds', rfl, tdj.hh, fun M1 p1 sm1 nm1 np1 ep1 => ?_⟩
        have td1 := tdj.extN (ExtN.of sm1)
        refine ⟨_, rfl, x, _, _, rfl, sm1 _ _ hxx, by rfl, x, rs', ds', rfl, td1.hh, fun M2 p2 ts2 tt2 ep2 gm2 np2 => ?_⟩
        have td2 := td1.extN gm2.extN
        refine ⟨(by show 2 ≤ sizeLine; decide), fun A1 nA1 => ?_⟩
        have gM3 : Gr M2 (upd M2 A1 (.lst [.ref p1, .ref p2])) := Gr.upd nA1
        have eA1 : upd M2 A1 (.lst [.ref p1, .ref p2]) A1 = some (.lst [.ref p1, .ref p2]) := upd_same
        generalize upd M2 A1 (.lst [.ref p1, .ref p2]) = M3 at gM3 eA1 ⊢
        have td3 := td2.extN gM3.extN
        refine ⟨_, rfl, pr, rs, rfl, SqL.of td3.hp, by omega, fun rs2 z prm srt nz => ?_⟩
        have gM4 : Gr M3 (upd M3 z (.lst (rs2.map V.str))) := Gr.upd nz
        have ez : upd M3 z (.lst (rs2.map V.str)) z = some (.lst (rs2.map V.str)) := upd_same
        generalize upd M3 z (.lst (rs2.map V.str)) = M4 at gM4 ez ⊢
        refine ⟨_, rfl, (by show 2 ≤ sizeLine; decide), fun A2 nA2 => ?_⟩
        have gM5 : Gr M4 (upd M4 A2 (.lst [.ref z, .ref da])) := Gr.upd nA2
        have eA2 : upd M4 A2 (.lst [.ref z, .ref da]) A2 = some (.lst [.ref z, .ref da]) := upd_same
        generalize upd M4 A2 (.lst [.ref z, .ref da]) = M5 at gM5 eA2 ⊢
        have ers2 : rs2 = rs' := sorted_one (prm.trans pm.symm) srt so
        subst ers2
        have h25 := (gM3.trans gM4).trans gM5
        have h15 := gm2.trans h25
        have s5 : Same H12 M5 := ((sm.trans sm1).trans gm2.s).trans h25.s
        have tgR : Tg M5 4 (.ref p1) (.ref z) := (Tg.lstS (n := 0) (h15.s _ _ ep1) (gM5.s _ _ ez) (by rw [pm.length_eq]; omega)).mono (by decide)
        have tgD : Tg M5 4 (.ref p2) (.ref da) := tg_tups (h25.s _ _ ep2) (s5 _ _ eda) (tups_up tt2 h25.s) (tups_up q5 s5) (by have := gd'.dlen; omega)
        refine ⟨.ref A1, .ref A2, rfl, .lst ((gM4.trans gM5).s _ _ eA1) eA2 (by show 2 < 100000; decide) rfl (Tg.two tgR tgD), fun M6 s6 => ?_⟩
        refine ⟨_, rfl, iteF2 rfl ?_⟩
        have sA := s5.trans s6
        have td6 := td12.extN (ExtN.of sA)
        obtain ⟨dy, _, _, _, _, hxy, _⟩ := td6.hh.at_
        refine ⟨_, rfl, x, _, _, rfl, hxy, x, rs2, ds', rfl, td6.hh, rs2.length, rfl, by rw [pm.length_eq]; omega, _, rfl, pr, _, rfl, .inl (SqL.of td6.hp), rfl, _, rfl, iteF2 (by rw [List.length_map, pm.length_eq]; simp) ?_⟩
        refine ⟨_, rfl, x, _, _, rfl, hxy, by rfl, x, rs2, ds', rfl, td6.hh, fun M7 p7 sm7 nm7 np7 ep7 => ?_⟩
        refine ⟨.inl ⟨rfl, _, SqL.of ep7⟩, p7, _, .str "late", rfl, rfl, ep7, (by rw [List.length_map, pm.length_eq]; exact Nat.lt_of_le_of_lt rl (by decide)), ?_⟩
        have s8 : Same M6 (upd M7 p7 (.lst (rs2.map V.str ++ [.str "late"]))) := fun b o h => by
          rw [upd_ne (ne_of_none h np7)]
          exact sm7 _ _ h
        generalize upd M7 p7 (.lst (rs2.map V.str ++ [.str "late"])) = M8 at s8 ⊢
        have td8 := td6.extN (ExtN.of s8)
        refine ⟨_, rfl, x, _, _, rfl, s8 _ _ hxy, by rfl, x, rs2, ds', rfl, td8.hh, fun M9 p9 ts9 tt9 ep9 gm9 np9 => ?_⟩
        refine ⟨.inl ⟨rfl, _, SqL.of ep9⟩, p9, _, rfl, rfl, ep9, ?_⟩
        have s10' : Same M8 (upd M9 p9 (.lst [])) := fun b o h => by
          rw [upd_ne (ne_of_none h np9)]
          exact gm9.s _ _ h
        exact ⟨_, rfl, (sA.trans s8).trans s10'⟩
      rintro σ' H13 ⟨v10, rfl, sm⟩
      have g1013 : ExtN H10 H13 := g1012.extN.trans (ExtN.of sm)
      have td13 := td.extN g1013
      have tb13 := (tb10.ext g1012.s).ext sm
      have s13 : Spr H13 a l c9 := s10.extN g1013
      have hd1 := gd'.len
      refine ⟨_, rfl, _, rfl, _, rfl, a, l, pr, pd, c9, rs, ts, es, rfl, s13, by omega, tb13, td13.hp, td13.hq, td13.ht, gd, rl, el, nok, lee, fun H14 n14 l14 g14 s14 t14 => ?_⟩
      have td14 := td13.gsN s13 g14
      refine ⟨_, rfl, iteF2 rfl ?_⟩
      refine ⟨_, rfl, _, rfl, _, rfl, a, l, pr, pd, n14, rs, ts, es, rfl, s14, by omega, t14, td14.hp, td14.hq, td14.ht, gd, rl, el, nok, lee, fun H15 n15 l15 g15 s15 t15 => ?_⟩
      have td15 := td14.gsN s14 g15
      refine ⟨_, rfl, iteF2 rfl ?_⟩
      refine ⟨_, rfl, _, rfl, _, rfl, x, pr, pd, rs, rs', ts, es, ds', rfl, t15, td15, fun H16 g16 t16 => ?_⟩
      have td16 := td15.extN g16
      have s16 := s15.extN g16
      refine ⟨_, rfl, iteF2 rfl ?_⟩
      refine ⟨_, rfl, _, rfl, _, rfl, _, rfl, a, l, x, pr, pd, n15, rs, rs', ts, es, ds', rfl, s16, by omega, td16, lee, fun H17 n17 l17 g17 s17 => ?_⟩
      refine ⟨_, rfl, iteF2 rfl ?_⟩
      exact ⟨_, _, _, _, _, _, _, _, _, _, rfl, s17, by omega, tabs_sb t16 s16 g17⟩
    · rintro σ' H2 ⟨v2, v3, v4, v5, v6, v7, v8, v9, v10, n, rfl, _⟩
      exact k _
end
end Lamp
set_option maxHeartbeats 8000000
namespace Lamp
open PySem PySem.Spec PyProof.Rows L2
/-! ### all defs stand -/
theorem fun_of {K : PySem.W.Frag} {x qual : Str} {st : Stmt} {f : Addr} {fd : FuncData} (F : FunD K x qual (defArgs st) (defBody st) (defScope st) [] [] f fd) : Fun K x qual st f fd := by
  obtain ⟨oc, od, dV, kV, doc, pm, an, cdv, ct, osl, e, lk, hcd, hD, hK⟩ := F.ex
  rcases hD with ⟨_, rfl⟩ | ⟨z, _⟩
  · exact ⟨⟨oc, od, kV, doc, pm, an, cdv, ct, osl, e, lk, hcd⟩, F.kp⟩
  · exact absurd rfl z
section
variable {P : Program} {w : World} {K : PySem.W.Frag} {mg : Str → Option Value} {base h : Heap}
theorem top_at {n i : Nat} {x : Str} (c : He.SaysD fa fn K) (e : fn[n]? = some (topD x i)) : ∃ fd, FunD K x x (defArgs (top i)) (defBody (top i)) (defScope (top i)) [] [] (He.ga K x) fd := c.def_ n e
theorem met_at {n i j : Nat} {C x q : Str} (c : He.SaysD fa fn K) (e : fn[n]? = some (metD C x q i j)) : ∃ fd, FunD K x q (defArgs (inClass (top i) j)) (defBody (inClass (top i) j)) (defScope (inClass (top i) j)) [] [] (He.ma K (He.ga K C) x) fd := c.def_ n e
theorem stands_at {n i k : Nat} {x : Str} {ps : List Str} {sp : Sp} (X : K.In h) (G : h.Ns mainGlobals mg) (c : He.SaysD fa fn K) (e : fn[n]? = some (topD x i)) (m : He.Fa.glo x ∈ fa)
    (z : ∀ (kV doc pm : Value) (an : Option Addr) (cdv ct : Value) (us : List Value), us.length = ps.length → bindArgs (PySem.W.fnOf x x (defArgs (top i)) (defBody (top i)) (defScope (top i)) .none kV doc pm an cdv ct) ⟨us, []⟩ = pure (ps.zip us))
    (ok : ∀ {fd : FuncData}, Fun K x x (top i) (He.ga K x) fd → FnOk P w K mg base CX0 k (He.ga K x) fd ps sp) : Stands P w K mg base k x ps sp := by
  obtain ⟨fd, F⟩ := top_at c e
  exact ⟨_, fd, ok (fun_of F), He.glo_ok X G (c.facts m), F.kp, F.bindsN z⟩
theorem standsX_at {n i k : Nat} {x : Str} {ps : List Str} {sp : Sp} (X : K.In h) (G : h.Ns mainGlobals mg) (c : He.SaysD fa fn K) (e : fn[n]? = some (topD x i)) (m : He.Fa.glo x ∈ fa)
    (z : ∀ (kV doc pm : Value) (an : Option Addr) (cdv ct : Value) (us : List Value), us.length = ps.length → bindArgs (PySem.W.fnOf x x (defArgs (top i)) (defBody (top i)) (defScope (top i)) .none kV doc pm an cdv ct) ⟨us, []⟩ = pure (ps.zip us))
    (ok : ∀ {fd : FuncData}, Fun K x x (top i) (He.ga K x) fd → FnOk P w K mg base (L2.CX P w) k (He.ga K x) fd ps sp) : StandsX P w K mg base k x ps sp := by
  obtain ⟨fd, F⟩ := top_at c e
  exact ⟨_, fd, ok (fun_of F), He.glo_ok X G (c.facts m), F.kp, F.bindsN z⟩
theorem funC_of {x : Str} {i : Nat} {fd : FuncData} (F : FunD K x x (defArgs (top i)) (defBody (top i)) (defScope (top i)) [] [] (He.ga K x) fd) : FunC K x (top i) (He.ga K x) (He.cT K (x, none)).1 fd := by
  obtain ⟨oc, od, dV, kV, doc, pm, an, cdv, ct, osl, e, lk, hcd, hD, hK⟩ := F.ex
  rcases hD with ⟨_, rfl⟩ | ⟨z, _⟩
  · obtain ⟨c, rfl⟩ := He.codeIn_ref hcd
    have ec : (He.cT K (x, none)).1 = c := He.codeOf_eq (p := (x, none)) lk (by rw [e])
    rw [ec]
    exact ⟨oc, od, kV, doc, pm, an, ct, osl, e, lk, hcd⟩
  · exact absurd rfl z
theorem oexB_ok {C : Addr} (h : oexB K C = true) : ∃ nm q N bs bm sn sub ab col dd k0 k1 k2 k3 k5, K.lookup C = some (excClassObj nm q C N bs bm true sn sub ab col dd k0 k1 k2 k3 k5 "ValueError.__new__") ∧ PySem.HandSPX.refsVE bm = true := by
  unfold oexB at h
  split at h
  · rename_i t dd cd sl lk
    obtain ⟨h1, h⟩ := He.ba h
    obtain ⟨h2, h⟩ := He.ba h
    obtain ⟨h3, h⟩ := He.ba h
    obtain ⟨h4, h5⟩ := He.ba h
    split at h2
    · rename_i k0 k1 k2 k3 n k5 hs
      have e1 : t = "type" := of_decide_eq_true h1
      have e2 : n = "ValueError.__new__" := of_decide_eq_true h2
      obtain ⟨nm, bs, mro, ns, qn, hd, sn, sub, ab, col, del⟩ := cd
      dsimp only at h3 h4 h5
      have e4 : del = false := by
        cases del with
        | false => rfl
        | true => cases h4
      split at h5
      · obtain ⟨h6, h7⟩ := He.ba h5
        have e6 := Nat.eq_of_beq_eq_true h6
        subst e1 e2 h3 e4 e6
        have es : sl = #[k0, k1, k2, k3, some (.builtin "ValueError.__new__"), k5] := by
          obtain ⟨l⟩ := sl
          simp only at hs
          rw [hs]
        subst es
        exact ⟨nm, qn, ns, bs, _, sn, sub, ab, col, dd, k0, k1, k2, k3, k5, lk, h7⟩
      · cases h5
    · cases h2
  · cases h
structure BadK (K : PySem.W.Frag) (C : Addr) (f : Str) : Prop where
  oe : OexC K C
  nF : PySem.W.findIn K (.ref C) f = some none
  iC : PySem.W.findIn K (.ref C) "__init__" = some (some (.ref (He.ma K C "__init__")))
  tI : PySem.W.typeIn K (.ref (He.ma K C "__init__")) = some (.type "function")
  xf : XfC K C
  te : PySem.W.exmOne K (.ref C) (.ref C) = some true
theorem badB_ok {C : Addr} {f : Str} (h : badB K C f = true) : BadK K C f := by
  obtain ⟨h1, h⟩ := He.ba h
  obtain ⟨h2, h⟩ := He.ba h
  obtain ⟨h3, h⟩ := He.ba h
  obtain ⟨h4, h⟩ := He.ba h
  obtain ⟨h5, h⟩ := He.ba h
  obtain ⟨h6, h⟩ := He.ba h
  obtain ⟨h7, h⟩ := He.ba h
  obtain ⟨h8, h⟩ := He.ba h
  obtain ⟨h9, h10⟩ := He.ba h
  exact ⟨⟨oexB_ok h1, He.eqO_ok h2, of_decide_eq_true h3, of_decide_eq_true h4, h5⟩, He.eqO_ok h6, He.eqO_ok h7, of_decide_eq_true h8, xfB_ok h9, of_decide_eq_true h10⟩
theorem ok_err1 {qual f : Str} {st : Stmt} {fI : Addr} {fd : FuncData} {q1 q2 q3 q4 : Pos} (F : Fun K "__init__" qual st fI fd) (hb : defBody st = [.Assign [.Attribute (.Name "self" q1) f q2] (.Name f q3) q4])
    (S : FnScope ["self", f] ["self", f] (defScope st)) (l0 : (defScope st).names.lookup ("self" : Str) = some .local) (l1 : (defScope st).names.lookup f = some .local) (d1 : (f == ("__debug__" : Str)) = false) (d2 : (f == ("__classdict__" : Str)) = false) :
    FnOk P w K mg base CX0 1 fI fd ["self", f] (spErr1 K f) := by
  refine F.ok S (fun vs H Q E h => ?_) (fun cdv A outer s H vs Q E hr h => ?_)
  · obtain ⟨a, C, y, rfl, _⟩ := h
    rfl
  · obtain ⟨a, C, y, rfl, T, nF, ha, k⟩ := h
    rw [hb]
    refine ⟨_, pss_one (ps_ost (pe_var (i := 0) rfl (.inl l0)) (pe_var (i := 1) rfl (.inl l1) d1 d2)), ?_⟩
    exact ⟨_, rfl, _, rfl, a, C, rfl, T, nF, .inl ⟨ha, fun d hd ne => k d hd ne⟩⟩
theorem house4B_ok {C : Addr} (cl : Cls K C) (h : house4B K C = true) : C8.InsC K C := by
  obtain ⟨h1, h⟩ := He.ba h
  obtain ⟨h2, h⟩ := He.ba h
  obtain ⟨h3, h⟩ := He.ba h
  obtain ⟨h4, h5⟩ := He.ba h
  exact ⟨cl, He.eqO_ok h1, He.eqO_ok h2, of_decide_eq_true h3, of_decide_eq_true h4, of_decide_eq_true h5⟩
theorem tyB_ok {C : Addr} {t : String} (h : tyB K C t = true) : PySem.W.kitOne K (.type t) (.ref C) = some false ∧ PySem.W.notFirst K C (.type t) = true := by
  obtain ⟨h1, h2⟩ := He.ba h
  exact ⟨of_decide_eq_true h1, h2⟩
theorem metB_ok {C : Addr} {x : Str} (h : metB K C x = true) : PySem.W.findIn K (.ref C) x = some (some (.ref (He.ma K C x))) ∧ PySem.W.isFn K (.ref (He.ma K C x)) = true := by
  obtain ⟨h1, h2⟩ := He.ba h
  exact ⟨He.eqO_ok h1, h2⟩
theorem mcs_of {sg : Scope} {cs : List MC} (ok : ∀ c ∈ cs, MCok K mg sg "e" c) (te : ∀ c ∈ cs, PySem.W.exmOne K (.ref c.C) (.ref c.C) = some true) (inj : ∀ c ∈ cs, ∀ c' ∈ cs, c.x = c'.x → c = c')
    (h : crossL K (cs.map fun c => (c.x, c.C)) = true) : MCs K mg sg "e" cs := by
  refine ⟨ok, fun c hc c' hc' => ?_⟩
  by_cases e : c = c'
  · subst e
    exact ⟨true, te c hc, fun _ => rfl, fun z => by cases z⟩
  · have h1 := List.all_eq_true.mp h (c.x, c.C) (List.mem_map.mpr ⟨c, hc, rfl⟩)
    have h2 := List.all_eq_true.mp h1 (c'.x, c'.C) (List.mem_map.mpr ⟨c', hc', rfl⟩)
    rcases Bool.or_eq_true _ _ ▸ h2 with z | z
    · exact absurd (inj c hc c' hc' (of_decide_eq_true z)) e
    · exact ⟨false, of_decide_eq_true z, (fun z => by cases z), fun _ => e⟩
theorem mets1_ok {CR CD CN CM : Addr} {sg : Scope} (g1 : sg.names.lookup ("BadRooms" : Str) = some .globalImplicit) (g2 : sg.names.lookup ("BadDoors" : Str) = some .globalImplicit) (g3 : sg.names.lookup ("NotJoined" : Str) = some .globalImplicit) (g4 : sg.names.lookup ("NoRoom" : Str) = some .globalImplicit)
    (m1 : mg "BadRooms" = some (.ref CR)) (m2 : mg "BadDoors" = some (.ref CD)) (m3 : mg "NotJoined" = some (.ref CN)) (m4 : mg "NoRoom" = some (.ref CM)) (b1 : BadK K CR "index") (b2 : BadK K CD "index") (b3 : BadK K CN "room") (b4 : BadK K CM "thing")
    (h : crossL K [("BadRooms", CR), ("BadDoors", CD), ("NotJoined", CN), ("NoRoom", CM)] = true) : MCs K mg sg "e" (mcs1 CR CD CN CM) := by
  refine mcs_of (fun c hc => ?_) (fun c hc => ?_) (fun c hc c' hc' e => ?_) h
  · rcases List.mem_cons.mp hc with rfl | hc
    · exact ⟨g1, m1, (show (("BadRooms" : Str) == ("__debug__" : Str)) = false by decide), b1.xf, b1.nF, fun _ _ => rfl⟩
    rcases List.mem_cons.mp hc with rfl | hc
    · exact ⟨g2, m2, (show (("BadDoors" : Str) == ("__debug__" : Str)) = false by decide), b2.xf, b2.nF, fun _ _ => rfl⟩
    rcases List.mem_cons.mp hc with rfl | hc
    · exact ⟨g3, m3, (show (("NotJoined" : Str) == ("__debug__" : Str)) = false by decide), b3.xf, b3.nF, fun _ _ => rfl⟩
    rw [List.mem_singleton.mp hc]
    exact ⟨g4, m4, (show (("NoRoom" : Str) == ("__debug__" : Str)) = false by decide), b4.xf, b4.nF, fun _ _ => rfl⟩
  · rcases List.mem_cons.mp hc with rfl | hc
    · exact b1.te
    rcases List.mem_cons.mp hc with rfl | hc
    · exact b2.te
    rcases List.mem_cons.mp hc with rfl | hc
    · exact b3.te
    rw [List.mem_singleton.mp hc]
    exact b4.te
  · have n : ∀ {x y : Str}, x = y → decide (x = y) = true := fun e => decide_eq_true e
    have hc1 : c = ⟨"BadRooms", CR, "index", "rooms"⟩ ∨ c = ⟨"BadDoors", CD, "index", "doors"⟩ ∨ c = ⟨"NotJoined", CN, "room", "joined"⟩ ∨ c = ⟨"NoRoom", CM, "thing", "room"⟩ := by
      unfold mcs1 at hc
      simpa only [List.mem_cons, List.mem_nil_iff, or_false, List.not_mem_nil] using hc
    have hc2 : c' = ⟨"BadRooms", CR, "index", "rooms"⟩ ∨ c' = ⟨"BadDoors", CD, "index", "doors"⟩ ∨ c' = ⟨"NotJoined", CN, "room", "joined"⟩ ∨ c' = ⟨"NoRoom", CM, "thing", "room"⟩ := by
      unfold mcs1 at hc'
      simpa only [List.mem_cons, List.mem_nil_iff, or_false, List.not_mem_nil] using hc'
    rcases hc1 with rfl | rfl | rfl | rfl <;> rcases hc2 with rfl | rfl | rfl | rfl <;> first | rfl | (dsimp only at e; exact absurd e (by decide))
def lamT (K : PySem.W.Frag) : List (Addr × Str) := [((He.cT K ("_law_refused_right", none)).2, "_law_refused_right.<locals>.<lambda>"), ((He.cT K ("_law_apart_right", none)).2, "_law_apart_right.<locals>.<lambda>"), ((He.cT K ("_law_beside_right", none)).2, "_law_beside_right.<locals>.<lambda>")]
theorem lamT_in {p : Addr × Str} (hp : p ∈ lamT K) : p = ((He.cT K ("_law_refused_right", none)).2, ("_law_refused_right.<locals>.<lambda>" : Str)) ∨ p = ((He.cT K ("_law_apart_right", none)).2, ("_law_apart_right.<locals>.<lambda>" : Str)) ∨ p = ((He.cT K ("_law_beside_right", none)).2, ("_law_beside_right.<locals>.<lambda>" : Str)) := by
  rcases List.mem_cons.mp hp with h | hp
  · exact .inl h
  rcases List.mem_cons.mp hp with h | hp
  · exact .inr (.inl h)
  exact .inr (.inr (List.mem_singleton.mp hp))
theorem lamT_new {H : Hp} (hH : ∀ p ∈ tf.map (He.cT K), H p.2 = some (.tbl #[])) : LamX.Tabs (lamT K) H := fun p hp => by
  rcases lamT_in hp with rfl | rfl | rfl
  · exact LamX.TabS.nil (hH _ (List.mem_map.mpr ⟨("_law_refused_right", none), by simp [tf], rfl⟩))
  · exact LamX.TabS.nil (hH _ (List.mem_map.mpr ⟨("_law_apart_right", none), by simp [tf], rfl⟩))
  · exact LamX.TabS.nil (hH _ (List.mem_map.mpr ⟨("_law_beside_right", none), by simp [tf], rfl⟩))
theorem nbeq {a b : Nat} (h : (!(Nat.beq a b)) = true) : a ≠ b := fun z => by
  rw [z, Nat.beq_refl] at h
  cases h
theorem tabB3_ok (h : tabB3 K = true) : (He.cT K ("_law_refused_right", none)).2 ≠ (He.cT K ("_law_apart_right", none)).2 ∧ (He.cT K ("_law_refused_right", none)).2 ≠ (He.cT K ("_law_beside_right", none)).2 ∧ (He.cT K ("_law_apart_right", none)).2 ≠ (He.cT K ("_law_beside_right", none)).2 := by
  obtain ⟨h1, h⟩ := He.ba h
  obtain ⟨h2, h3⟩ := He.ba h
  exact ⟨nbeq h1, nbeq h2, nbeq h3⟩
theorem lamT_u1 (h : tabB3 K = true) : ∀ p ∈ lamT K, p.1 = (He.cT K ("_law_refused_right", none)).2 → p.2 = ("_law_refused_right.<locals>.<lambda>" : Str) := fun p hp e => by
  obtain ⟨h1, h2, h3⟩ := tabB3_ok h
  rcases lamT_in hp with rfl | rfl | rfl
  · rfl
  · exact absurd e.symm h1
  · exact absurd e.symm h2
theorem lamT_u2 (h : tabB3 K = true) : ∀ p ∈ lamT K, p.1 = (He.cT K ("_law_apart_right", none)).2 → p.2 = ("_law_apart_right.<locals>.<lambda>" : Str) := fun p hp e => by
  obtain ⟨h1, h2, h3⟩ := tabB3_ok h
  rcases lamT_in hp with rfl | rfl | rfl
  · exact absurd e h1
  · rfl
  · exact absurd e.symm h3
theorem lamT_u3 (h : tabB3 K = true) : ∀ p ∈ lamT K, p.1 = (He.cT K ("_law_beside_right", none)).2 → p.2 = ("_law_beside_right.<locals>.<lambda>" : Str) := fun p hp e => by
  obtain ⟨h1, h2, h3⟩ := tabB3_ok h
  rcases lamT_in hp with rfl | rfl | rfl
  · exact absurd e h2
  · exact absurd e h3
  · rfl
theorem law_of (c : He.SaysD fa fn K) (X : K.In h) (G : h.Ns mainGlobals mg) (ex : exB K = true) (TB : ∀ p ∈ tf.map (He.cT K), LamX.TabB base mg p.1 p.2) : ∀ {fd : FuncData}, FunD K "law" "law" (defArgs s_law) (defBody s_law) (defScope s_law) [] [] (He.ga K "law") fd → FnG P w K mg base 11 (He.ga K "law") ["script"] (spLaw1 K (lamT K)) := by
  have fre : ∀ {x : Str}, He.Fa.free x ∈ fa → mg x = none := fun m => He.free_ok X G (c.facts m)
  have tA : TxtA mg := by constructor <;> first | exact fre (by simp [fa, fa0, fa1, fa2, fa3, fa4]) | exact He.str_ok X G (c.facts (by simp [fa, fa0, fa1, fa2, fa3, fa4])) | exact He.int_ok X G (c.facts (by simp [fa, fa0, fa1, fa2, fa3, fa4]))
  have tAp : TxtAp mg := by constructor <;> first | exact fre (by simp [fa, fa0, fa1, fa2, fa3, fa4]) | exact He.str_ok X G (c.facts (by simp [fa, fa0, fa1, fa2, fa3, fa4])) | exact He.int_ok X G (c.facts (by simp [fa, fa0, fa1, fa2, fa3, fa4]))
  have tB : TxtB mg := by constructor <;> first | exact fre (by simp [fa, fa0, fa1, fa2, fa3, fa4]) | exact He.str_ok X G (c.facts (by simp [fa, fa0, fa1, fa2, fa3, fa4])) | exact He.int_ok X G (c.facts (by simp [fa, fa0, fa1, fa2, fa3, fa4]))
  have tC : TxtC mg := by constructor <;> first | exact fre (by simp [fa, fa0, fa1, fa2, fa3, fa4]) | exact He.str_ok X G (c.facts (by simp [fa, fa0, fa1, fa2, fa3, fa4])) | exact He.int_ok X G (c.facts (by simp [fa, fa0, fa1, fa2, fa3, fa4]))
  have tD : TxtD mg := by constructor <;> first | exact fre (by simp [fa, fa0, fa1, fa2, fa3, fa4]) | exact He.str_ok X G (c.facts (by simp [fa, fa0, fa1, fa2, fa3, fa4])) | exact He.int_ok X G (c.facts (by simp [fa, fa0, fa1, fa2, fa3, fa4]))
  have tDk : TxtDk mg := by constructor <;> first | exact fre (by simp [fa, fa0, fa1, fa2, fa3, fa4]) | exact He.str_ok X G (c.facts (by simp [fa, fa0, fa1, fa2, fa3, fa4])) | exact He.int_ok X G (c.facts (by simp [fa, fa0, fa1, fa2, fa3, fa4]))
  have tEq : TxtEq mg := by constructor <;> first | exact fre (by simp [fa, fa0, fa1, fa2, fa3, fa4]) | exact He.str_ok X G (c.facts (by simp [fa, fa0, fa1, fa2, fa3, fa4])) | exact He.int_ok X G (c.facts (by simp [fa, fa0, fa1, fa2, fa3, fa4]))
  have tF : TxtF mg := by constructor <;> first | exact fre (by simp [fa, fa0, fa1, fa2, fa3, fa4]) | exact He.str_ok X G (c.facts (by simp [fa, fa0, fa1, fa2, fa3, fa4])) | exact He.int_ok X G (c.facts (by simp [fa, fa0, fa1, fa2, fa3, fa4]))
  have tH : TxtH mg := by constructor <;> first | exact fre (by simp [fa, fa0, fa1, fa2, fa3, fa4]) | exact He.str_ok X G (c.facts (by simp [fa, fa0, fa1, fa2, fa3, fa4])) | exact He.int_ok X G (c.facts (by simp [fa, fa0, fa1, fa2, fa3, fa4]))
  have tHl : TxtHl mg := by constructor <;> first | exact fre (by simp [fa, fa0, fa1, fa2, fa3, fa4]) | exact He.str_ok X G (c.facts (by simp [fa, fa0, fa1, fa2, fa3, fa4])) | exact He.int_ok X G (c.facts (by simp [fa, fa0, fa1, fa2, fa3, fa4]))
  have tI : TxtI mg := by constructor <;> first | exact fre (by simp [fa, fa0, fa1, fa2, fa3, fa4]) | exact He.str_ok X G (c.facts (by simp [fa, fa0, fa1, fa2, fa3, fa4])) | exact He.int_ok X G (c.facts (by simp [fa, fa0, fa1, fa2, fa3, fa4]))
  have tK : TxtK mg := by constructor <;> first | exact fre (by simp [fa, fa0, fa1, fa2, fa3, fa4]) | exact He.str_ok X G (c.facts (by simp [fa, fa0, fa1, fa2, fa3, fa4])) | exact He.int_ok X G (c.facts (by simp [fa, fa0, fa1, fa2, fa3, fa4]))
  have tL : TxtL mg := by constructor <;> first | exact fre (by simp [fa, fa0, fa1, fa2, fa3, fa4]) | exact He.str_ok X G (c.facts (by simp [fa, fa0, fa1, fa2, fa3, fa4])) | exact He.int_ok X G (c.facts (by simp [fa, fa0, fa1, fa2, fa3, fa4]))
  have tL1 : TxtL1 mg := by constructor <;> first | exact fre (by simp [fa, fa0, fa1, fa2, fa3, fa4]) | exact He.str_ok X G (c.facts (by simp [fa, fa0, fa1, fa2, fa3, fa4])) | exact He.int_ok X G (c.facts (by simp [fa, fa0, fa1, fa2, fa3, fa4]))
  have tLo : TxtLo mg := by constructor <;> first | exact fre (by simp [fa, fa0, fa1, fa2, fa3, fa4]) | exact He.str_ok X G (c.facts (by simp [fa, fa0, fa1, fa2, fa3, fa4])) | exact He.int_ok X G (c.facts (by simp [fa, fa0, fa1, fa2, fa3, fa4]))
  have tM : TxtM mg := by constructor <;> first | exact fre (by simp [fa, fa0, fa1, fa2, fa3, fa4]) | exact He.str_ok X G (c.facts (by simp [fa, fa0, fa1, fa2, fa3, fa4])) | exact He.int_ok X G (c.facts (by simp [fa, fa0, fa1, fa2, fa3, fa4]))
  have tMs : TxtMs mg := by constructor <;> first | exact fre (by simp [fa, fa0, fa1, fa2, fa3, fa4]) | exact He.str_ok X G (c.facts (by simp [fa, fa0, fa1, fa2, fa3, fa4])) | exact He.int_ok X G (c.facts (by simp [fa, fa0, fa1, fa2, fa3, fa4]))
  have tMx : TxtMx mg := by constructor <;> first | exact fre (by simp [fa, fa0, fa1, fa2, fa3, fa4]) | exact He.str_ok X G (c.facts (by simp [fa, fa0, fa1, fa2, fa3, fa4])) | exact He.int_ok X G (c.facts (by simp [fa, fa0, fa1, fa2, fa3, fa4]))
  have tN : TxtN mg := by constructor <;> first | exact fre (by simp [fa, fa0, fa1, fa2, fa3, fa4]) | exact He.str_ok X G (c.facts (by simp [fa, fa0, fa1, fa2, fa3, fa4])) | exact He.int_ok X G (c.facts (by simp [fa, fa0, fa1, fa2, fa3, fa4]))
  have tP : TxtP mg := by constructor <;> first | exact fre (by simp [fa, fa0, fa1, fa2, fa3, fa4]) | exact He.str_ok X G (c.facts (by simp [fa, fa0, fa1, fa2, fa3, fa4])) | exact He.int_ok X G (c.facts (by simp [fa, fa0, fa1, fa2, fa3, fa4]))
  have tQ : TxtQ mg := by constructor <;> first | exact fre (by simp [fa, fa0, fa1, fa2, fa3, fa4]) | exact He.str_ok X G (c.facts (by simp [fa, fa0, fa1, fa2, fa3, fa4])) | exact He.int_ok X G (c.facts (by simp [fa, fa0, fa1, fa2, fa3, fa4]))
  have tR : TxtR mg := by constructor <;> first | exact fre (by simp [fa, fa0, fa1, fa2, fa3, fa4]) | exact He.str_ok X G (c.facts (by simp [fa, fa0, fa1, fa2, fa3, fa4])) | exact He.int_ok X G (c.facts (by simp [fa, fa0, fa1, fa2, fa3, fa4]))
  have tS : TxtS mg := by constructor <;> first | exact fre (by simp [fa, fa0, fa1, fa2, fa3, fa4]) | exact He.str_ok X G (c.facts (by simp [fa, fa0, fa1, fa2, fa3, fa4])) | exact He.int_ok X G (c.facts (by simp [fa, fa0, fa1, fa2, fa3, fa4]))
  have tSm : TxtSm mg := by constructor <;> first | exact fre (by simp [fa, fa0, fa1, fa2, fa3, fa4]) | exact He.str_ok X G (c.facts (by simp [fa, fa0, fa1, fa2, fa3, fa4])) | exact He.int_ok X G (c.facts (by simp [fa, fa0, fa1, fa2, fa3, fa4]))
  have tY : TxtY mg := by constructor <;> first | exact fre (by simp [fa, fa0, fa1, fa2, fa3, fa4]) | exact He.str_ok X G (c.facts (by simp [fa, fa0, fa1, fa2, fa3, fa4])) | exact He.int_ok X G (c.facts (by simp [fa, fa0, fa1, fa2, fa3, fa4]))
  intro fd F
  have exx : (house4B K (He.ga K "House") && (badB K (He.ga K "BadRooms") "index" && (badB K (He.ga K "BadDoors") "index" && (badB K (He.ga K "NotJoined") "room" && (badB K (He.ga K "NoRoom") "thing" &&
      (crossL K [("BadRooms", (He.ga K "BadRooms")), ("BadDoors", (He.ga K "BadDoors")), ("NotJoined", (He.ga K "NotJoined")), ("NoRoom", (He.ga K "NoRoom"))] && (tabB3 K && eq1B K (He.ga K "House")))))))) = true := by
    have e := ex
    unfold exB at e
    rw [HandSHeadRun.frNat_eq, HandSHeadRun.frNat_eq, HandSHeadRun.frNat_eq, HandSHeadRun.frNat_eq, HandSHeadRun.frNat_eq] at e
    exact e
  obtain ⟨ex1, exx⟩ := He.ba exx
  obtain ⟨ex2, exx⟩ := He.ba exx
  obtain ⟨ex3, exx⟩ := He.ba exx
  obtain ⟨ex4, exx⟩ := He.ba exx
  obtain ⟨ex5, exx⟩ := He.ba exx
  obtain ⟨ex6, exx⟩ := He.ba exx
  obtain ⟨ex7, exx⟩ := He.ba exx
  obtain ⟨q1, exx⟩ := He.ba exx
  obtain ⟨q2, exx⟩ := He.ba exx
  obtain ⟨q3, exx⟩ := He.ba exx
  obtain ⟨q4, exx⟩ := He.ba exx
  obtain ⟨q5, exx⟩ := He.ba exx
  obtain ⟨q6, exx⟩ := He.ba exx
  obtain ⟨q7, exx⟩ := He.ba exx
  obtain ⟨q8, q9⟩ := He.ba exx
  have bBadRooms := badB_ok ex2
  have bBadDoors := badB_ok ex3
  have bNotJoined := badB_ok ex4
  have bNoRoom := badB_ok ex5
  have cH : ClsH K (He.ga K "House") := ⟨He.cls_ok (c.facts (by simp [fa, fa0, fa1, fa2, fa3, fa4])), He.noat_ok (c.facts (by simp [fa, fa0, fa1, fa2, fa3, fa4])), He.noat_ok (c.facts (by simp [fa, fa0, fa1, fa2, fa3, fa4])), He.noat_ok (c.facts (by simp [fa, fa0, fa1, fa2, fa3, fa4]))⟩
  obtain ⟨d_has, F_has⟩ := met_at c (n := 11) (C := "House") (x := "has") (q := "House.has") (i := 14) (j := 5) (by rfl)
  obtain ⟨d_near, F_near⟩ := met_at c (n := 12) (C := "House") (x := "near") (q := "House.near") (i := 14) (j := 6) (by rfl)
  obtain ⟨d_rooms, F_rooms⟩ := met_at c (n := 7) (C := "House") (x := "rooms") (q := "House.rooms") (i := 14) (j := 1) (by rfl)
  obtain ⟨d_init, F_init⟩ := met_at c (n := 6) (C := "House") (x := "__init__") (q := "House.__init__") (i := 14) (j := 0) (by rfl)
  have hH : HasH P w K mg base (He.ga K "House") := ⟨cH, ⟨_, _, He.meth_ok (c.facts (by simp [fa, fa0, fa1, fa2, fa3, fa4])), ok_has (fun_of F_has) tI cH, F_has.bindsN (fun _ _ _ _ _ _ us hl => match us, hl with | [u0, u1], _ => rfl)⟩, ⟨_, _, He.meth_ok (c.facts (by simp [fa, fa0, fa1, fa2, fa3, fa4])), ok_near (fun_of F_near) tH cH, F_near.bindsN (fun _ _ _ _ _ _ us hl => match us, hl with | [u0, u1], _ => rfl)⟩, ⟨_, _, He.meth_ok (c.facts (by simp [fa, fa0, fa1, fa2, fa3, fa4])), ok_rooms (fun_of F_rooms) tH cH, F_rooms.bindsN (fun _ _ _ _ _ _ us hl => match us, hl with | [u0], _ => rfl)⟩⟩
  have hA : HasAny P w K mg base (He.ga K "House") := ⟨_, _, He.meth_ok (c.facts (by simp [fa, fa0, fa1, fa2, fa3, fa4])), ok_hasA (fun_of F_has) tI cH, F_has.bindsN (fun _ _ _ _ _ _ us hl => match us, hl with | [u0, u1], _ => rfl)⟩
  obtain ⟨d_doors, F_doors⟩ := met_at c (n := 8) (C := "House") (x := "doors") (q := "House.doors") (i := 14) (j := 2) (by rfl)
  obtain ⟨d_len, F_len⟩ := met_at c (n := 9) (C := "House") (x := "__len__") (q := "House.__len__") (i := 14) (j := 3) (by rfl)
  obtain ⟨d_eq, F_eq⟩ := met_at c (n := 10) (C := "House") (x := "__eq__") (q := "House.__eq__") (i := 14) (j := 4) (by rfl)
  have insC := house4B_ok cH.cls ex1
  have doorsO : DoorsOf P w K mg base (He.ga K "House") := ⟨_, _, He.meth_ok (c.facts (by simp [fa, fa0, fa1, fa2, fa3, fa4])), ok_doorsH (fun_of F_doors) tHl cH, F_doors.bindsN (fun _ _ _ _ _ _ us hl => match us, hl with | [u0], _ => rfl)⟩
  have lenO : ∃ (f : Addr) (fd : FuncData), PySem.W.findIn K (.ref (He.ga K "House")) "__len__" = some (some (.ref f)) ∧ PySem.W.isFn K (.ref f) = true ∧ FnOk P w K mg base CX0 1 f fd ["self"] (spLenH (He.ga K "House")) ∧ L2.Binds K fd ["self"] [] := ⟨_, _, (metB_ok q8).1, (metB_ok q8).2, ok_lenH (fun_of F_len) tHl cH, F_len.bindsN (fun _ _ _ _ _ _ us hl => match us, hl with | [u0], _ => rfl)⟩
  have tyO : ∀ t : String, t = "NoneType" ∨ t = "int" ∨ t = "list" ∨ t = "dict" ∨ t = "str" → PySem.W.kitOne K (.type t) (.ref (He.ga K "House")) = some false ∧ PySem.W.notFirst K (He.ga K "House") (.type t) = true := fun t ht => by
    rcases ht with rfl | rfl | rfl | rfl | rfl
    · exact tyB_ok q1
    · exact tyB_ok q2
    · exact tyB_ok q3
    · exact tyB_ok q4
    · exact tyB_ok q5
  have eqT : EqT P w K mg base (He.ga K "House") := ⟨tyO, q6, ⟨_, _, (metB_ok q7).1, (metB_ok q7).2, ok_eqB (fun_of F_eq) tHl.isi (He.glo_ok X G (c.facts (by simp [fa, fa0, fa1, fa2, fa3, fa4]))) cH insC, F_eq.bindsN (fun _ _ _ _ _ _ us hl => match us, hl with | [u0, u1], _ => rfl)⟩, He.eqO_ok q9, insC.hm, insC⟩
  obtain ⟨d_iBadRooms, F_iBadRooms⟩ := met_at c (n := 1) (C := "BadRooms") (x := "__init__") (q := "BadRooms.__init__") (i := 3) (j := 0) (by rfl)
  have eBadRooms : ErrI P w K mg base "BadRooms" "index" (He.ga K "BadRooms") := ⟨bBadRooms.oe, He.glo_ok X G (c.facts (by simp [fa, fa0, fa1, fa2, fa3, fa4])), bBadRooms.nF, _, d_iBadRooms, bBadRooms.iC, bBadRooms.tI, ok_err1 (fun_of F_iBadRooms) rfl ⟨rfl, rfl, rfl, by decide +kernel, rfl, by decide +kernel, by decide +kernel⟩ rfl rfl (by decide) (by decide), F_iBadRooms.bindsN (fun _ _ _ _ _ _ us hl => match us, hl with | [u0, u1], _ => rfl)⟩
  obtain ⟨d_iBadDoors, F_iBadDoors⟩ := met_at c (n := 0) (C := "BadDoors") (x := "__init__") (q := "BadDoors.__init__") (i := 2) (j := 0) (by rfl)
  have eBadDoors : ErrI P w K mg base "BadDoors" "index" (He.ga K "BadDoors") := ⟨bBadDoors.oe, He.glo_ok X G (c.facts (by simp [fa, fa0, fa1, fa2, fa3, fa4])), bBadDoors.nF, _, d_iBadDoors, bBadDoors.iC, bBadDoors.tI, ok_err1 (fun_of F_iBadDoors) rfl ⟨rfl, rfl, rfl, by decide +kernel, rfl, by decide +kernel, by decide +kernel⟩ rfl rfl (by decide) (by decide), F_iBadDoors.bindsN (fun _ _ _ _ _ _ us hl => match us, hl with | [u0, u1], _ => rfl)⟩
  obtain ⟨d_iNotJoined, F_iNotJoined⟩ := met_at c (n := 3) (C := "NotJoined") (x := "__init__") (q := "NotJoined.__init__") (i := 5) (j := 0) (by rfl)
  have eNotJoined : ErrI P w K mg base "NotJoined" "room" (He.ga K "NotJoined") := ⟨bNotJoined.oe, He.glo_ok X G (c.facts (by simp [fa, fa0, fa1, fa2, fa3, fa4])), bNotJoined.nF, _, d_iNotJoined, bNotJoined.iC, bNotJoined.tI, ok_err1 (fun_of F_iNotJoined) rfl ⟨rfl, rfl, rfl, by decide +kernel, rfl, by decide +kernel, by decide +kernel⟩ rfl rfl (by decide) (by decide), F_iNotJoined.bindsN (fun _ _ _ _ _ _ us hl => match us, hl with | [u0, u1], _ => rfl)⟩
  obtain ⟨d_iNoRoom, F_iNoRoom⟩ := met_at c (n := 2) (C := "NoRoom") (x := "__init__") (q := "NoRoom.__init__") (i := 4) (j := 0) (by rfl)
  have eNoRoom : ErrI P w K mg base "NoRoom" "thing" (He.ga K "NoRoom") := ⟨bNoRoom.oe, He.glo_ok X G (c.facts (by simp [fa, fa0, fa1, fa2, fa3, fa4])), bNoRoom.nF, _, d_iNoRoom, bNoRoom.iC, bNoRoom.tI, ok_err1 (fun_of F_iNoRoom) rfl ⟨rfl, rfl, rfl, by decide +kernel, rfl, by decide +kernel, by decide +kernel⟩ rfl rfl (by decide) (by decide), F_iNoRoom.bindsN (fun _ _ _ _ _ _ us hl => match us, hl with | [u0, u1], _ => rfl)⟩
  have S_is_row : Stands P w K mg base 1 "is_row" ["thing"] (spIsRow K) := stands_at X G c (n := 4) (i := 11) (by rfl) (by simp [fa, fa0, fa1, fa2, fa3, fa4]) (fun _ _ _ _ _ _ us hl => match us, hl with | [u0], _ => rfl) fun F => ok_isrow F tR
  have S_is_name : Stands P w K mg base 1 "is_name" ["thing"] (spNameA K) := stands_at X G c (n := 5) (i := 12) (by rfl) (by simp [fa, fa0, fa1, fa2, fa3, fa4]) (fun _ _ _ _ _ _ us hl => match us, hl with | [u0], _ => rfl) fun F => ok_nameA F tN
  have S_leader_of : Stands P w K mg base 1 "leader_of" ["leaders", "room"] (spLeader) := stands_at X G c (n := 18) (i := 20) (by rfl) (by simp [fa, fa0, fa1, fa2, fa3, fa4]) (fun _ _ _ _ _ _ us hl => match us, hl with | [u0, u1], _ => rfl) fun F => ok_leader F
  have S_is_pair_of : Stands P w K mg base 2 "is_pair_of" ["rooms", "thing"] (spPairA K) := stands_at X G c (n := 17) (i := 19) (by rfl) (by simp [fa, fa0, fa1, fa2, fa3, fa4]) (fun _ _ _ _ _ _ us hl => match us, hl with | [u0, u1], _ => rfl) fun F => ok_pairA F tP S_is_row
  have S_doors_fault : Stands P w K mg base 3 "doors_fault" ["rooms", "doors"] (spDoorsA K) := stands_at X G c (n := 16) (i := 18) (by rfl) (by simp [fa, fa0, fa1, fa2, fa3, fa4]) (fun _ _ _ _ _ _ us hl => match us, hl with | [u0, u1], _ => rfl) fun F => ok_doorsA F tD S_is_row S_is_pair_of S_leader_of
  have S_rooms_fault : Stands P w K mg base 2 "rooms_fault" ["rooms"] (spRoomsA K) := stands_at X G c (n := 15) (i := 17) (by rfl) (by simp [fa, fa0, fa1, fa2, fa3, fa4]) (fun _ _ _ _ _ _ us hl => match us, hl with | [u0], _ => rfl) fun F => ok_roomsA F tM S_is_row S_is_name
  have S_rooms_by_doors : Stands P w K mg base 1 "rooms_by_doors" ["rooms", "doors"] (spNearN K) := stands_at X G c (n := 19) (i := 21) (by rfl) (by simp [fa, fa0, fa1, fa2, fa3, fa4]) (fun _ _ _ _ _ _ us hl => match us, hl with | [u0, u1], _ => rfl) fun F => ok_nearbyN F
  have S_reach : Stands P w K mg base 2 "reach" ["house", "start", "inside"] (spReachG K (He.ga K "House")) := stands_at X G c (n := 20) (i := 22) (by rfl) (by simp [fa, fa0, fa1, fa2, fa3, fa4]) (fun _ _ _ _ _ _ us hl => match us, hl with | [u0, u1, u2], _ => rfl) fun F => ok_reachG F tQ hH
  have S_first_parted : Stands P w K mg base 3 "first_parted" ["house", "some"] (spFirstG K (He.ga K "House")) := stands_at X G c (n := 21) (i := 23) (by rfl) (by simp [fa, fa0, fa1, fa2, fa3, fa4]) (fun _ _ _ _ _ _ us hl => match us, hl with | [u0, u1], _ => rfl) fun F => ok_firstG F tF S_reach
  have GI : FnOk P w K mg base (L2.CX P w) 4 _ _ ["self", "rooms", "doors"] (spInitA K (He.ga K "House") (He.ga K "BadRooms") (He.ga K "BadDoors") (He.ga K "NotJoined")) := ok_initA (fun_of F_init) tK cH eBadRooms eBadDoors eNotJoined S_rooms_fault S_doors_fault S_rooms_by_doors S_first_parted
  have GJ := initG GI
  have MK : Mk K (He.ga K "House") _ := He.mkr_ok (c.facts (by simp [fa, fa0, fa1, fa2, fa3, fa4]))
  have gH : mg "House" = some (.ref (He.ga K "House")) := He.glo_ok X G (c.facts (by simp [fa, fa0, fa1, fa2, fa3, fa4]))
  have bI : L2.Binds K _ ["self", "rooms", "doors"] [] := F_init.bindsN (fun _ _ _ _ _ _ us hl => match us, hl with | [u0, u1, u2], _ => rfl)
  have S__law_start : Stands P w K mg base 1 "_law_start" ["script"] (spStart K) := stands_at X G c (n := 22) (i := 25) (by rfl) (by simp [fa, fa0, fa1, fa2, fa3, fa4]) (fun _ _ _ _ _ _ us hl => match us, hl with | [u0], _ => rfl) fun F => ok_start F tS
  have S__law_draw : Stands P w K mg base 1 "_law_draw" ["stream", "many"] (spDraw) := stands_at X G c (n := 23) (i := 26) (by rfl) (by simp [fa, fa0, fa1, fa2, fa3, fa4]) (fun _ _ _ _ _ _ us hl => match us, hl with | [u0, u1], _ => rfl) fun F => ok_draw F tS
  obtain ⟨f_draw, e_draw, G_draw, m_draw, k_draw, b_draw⟩ := id S__law_draw
  have S__law_mixed : Stands P w K mg base 2 "_law_mixed" ["stream", "some"] (spMixed K) := stands_at X G c (n := 25) (i := 28) (by rfl) (by simp [fa, fa0, fa1, fa2, fa3, fa4]) (fun _ _ _ _ _ _ us hl => match us, hl with | [u0, u1], _ => rfl) fun F => ok_mixed F tS G_draw m_draw k_draw b_draw
  have V_pick : Stands P w K mg base 2 "_law_pick" ["stream", "some"] (spPickV) := stands_at X G c (n := 24) (i := 27) (by rfl) (by simp [fa, fa0, fa1, fa2, fa3, fa4]) (fun _ _ _ _ _ _ us hl => match us, hl with | [u0, u1], _ => rfl) fun F => ok_pickV F tS S__law_draw
  have S__law_h_names : Stands P w K mg base 3 "_law_h_names" ["stream", "many"] (spNamesN) := stands_at X G c (n := 28) (i := 31) (by rfl) (by simp [fa, fa0, fa1, fa2, fa3, fa4]) (fun _ _ _ _ _ _ us hl => match us, hl with | [u0, u1], _ => rfl) fun F => ok_namesN F S__law_mixed
  have S__law_h_doors : Stands P w K mg base 3 "_law_h_doors" ["stream", "rooms"] (spHDoors) := stands_at X G c (n := 29) (i := 32) (by rfl) (by simp [fa, fa0, fa1, fa2, fa3, fa4]) (fun _ _ _ _ _ _ us hl => match us, hl with | [u0, u1], _ => rfl) fun F => ok_hdoors F tS tMx S__law_draw S__law_mixed
  have S__law_h_house : Stands P w K mg base 4 "_law_h_house" ["stream", "most"] (spHHouseT) := stands_at X G c (n := 30) (i := 33) (by rfl) (by simp [fa, fa0, fa1, fa2, fa3, fa4]) (fun _ _ _ _ _ _ us hl => match us, hl with | [u0, u1], _ => rfl) fun F => ok_hhouseT F S__law_draw S__law_mixed S__law_h_names S__law_h_doors
  have S_loose0 : Stands P w K mg base 1 "_law_loose" ["stream", "thing"] (spLoose S0 R0 0) := stands_at X G c (n := 27) (i := 30) (by rfl) (by simp [fa, fa0, fa1, fa2, fa3, fa4]) (fun _ _ _ _ _ _ us hl => match us, hl with | [u0, u1], _ => rfl) fun F => ok_loose0 F tLo
  have S_loose1 : Stands P w K mg base 2 "_law_loose" ["stream", "thing"] (spLoose (SU S0) (RU R0) 1) := stands_at X G c (n := 27) (i := 30) (by rfl) (by simp [fa, fa0, fa1, fa2, fa3, fa4]) (fun _ _ _ _ _ _ us hl => match us, hl with | [u0, u1], _ => rfl) fun F => ok_loose item0 F tLo S__law_draw S_loose0
  have S_loose2 : Stands P w K mg base 3 "_law_loose" ["stream", "thing"] (spLoose (SU (SU S0)) (RU (RU R0)) 13) := stands_at X G c (n := 27) (i := 30) (by rfl) (by simp [fa, fa0, fa1, fa2, fa3, fa4]) (fun _ _ _ _ _ _ us hl => match us, hl with | [u0, u1], _ => rfl) fun F => ok_loose (itemU item0) F tLo S__law_draw S_loose1
  have M_beside : Stands P w K mg base 1 "_law_h_beside" ["doors", "room"] (spBesideM) := stands_at X G c (n := 31) (i := 34) (by rfl) (by simp [fa, fa0, fa1, fa2, fa3, fa4]) (fun _ _ _ _ _ _ us hl => match us, hl with | [u0, u1], _ => rfl) fun F => ok_besideM F tK
  have L_beside : Stands P w K mg base 1 "_law_h_beside" ["doors", "room"] (spBesideS) := stands_at X G c (n := 31) (i := 34) (by rfl) (by simp [fa, fa0, fa1, fa2, fa3, fa4]) (fun _ _ _ _ _ _ us hl => match us, hl with | [u0, u1], _ => rfl) fun F => ok_besideS F tK
  have S__law_h_way : Stands P w K mg base 2 "_law_h_way" ["doors", "one", "other"] (spHWay) := stands_at X G c (n := 32) (i := 35) (by rfl) (by simp [fa, fa0, fa1, fa2, fa3, fa4]) (fun _ _ _ _ _ _ us hl => match us, hl with | [u0, u1, u2], _ => rfl) fun F => ok_hway F M_beside
  have S__law_odd_name : Stands P w K mg base 3 "_law_odd_name" ["stream"] (spOddN) := stands_at X G c (n := 34) (i := 37) (by rfl) (by simp [fa, fa0, fa1, fa2, fa3, fa4]) (fun _ _ _ _ _ _ us hl => match us, hl with | [u0], _ => rfl) fun F => ok_oddN F V_pick
  have S__law_odd_door : Stands P w K mg base 3 "_law_odd_door" ["stream", "rooms", "doors"] (spOddD) := stands_at X G c (n := 35) (i := 38) (by rfl) (by simp [fa, fa0, fa1, fa2, fa3, fa4]) (fun _ _ _ _ _ _ us hl => match us, hl with | [u0, u1, u2], _ => rfl) fun F => ok_oddD F tS V_pick
  obtain ⟨d_same, F_same⟩ := top_at c (n := 26) (x := "_law_same") (i := 29) (by rfl)
  have S_same := sameG_stands (P := P) (w := w) (base := base) (fun_of F_same) tSm (He.glo_ok X G (c.facts (by simp [fa, fa0, fa1, fa2, fa3, fa4]))) F_same.kp (F_same.bindsN (fun _ _ _ _ _ _ us hl => match us, hl with | [u0, u1], _ => rfl)) 5
  obtain ⟨d_met, F_met⟩ := top_at c (n := 33) (x := "_law_met") (i := 36) (by rfl)
  have mf : MetsF K mg (mcs1 (He.ga K "BadRooms") (He.ga K "BadDoors") (He.ga K "NotJoined") (He.ga K "NoRoom")) := ⟨⟨_, d_met, fun_of F_met, He.glo_ok X G (c.facts (by simp [fa, fa0, fa1, fa2, fa3, fa4])), F_met.kp, F_met.bindsN (fun _ _ _ _ _ _ us hl => match us, hl with | [u0], _ => rfl)⟩, mets1_ok rfl rfl rfl rfl (He.glo_ok X G (c.facts (by simp [fa, fa0, fa1, fa2, fa3, fa4]))) (He.glo_ok X G (c.facts (by simp [fa, fa0, fa1, fa2, fa3, fa4]))) (He.glo_ok X G (c.facts (by simp [fa, fa0, fa1, fa2, fa3, fa4]))) (He.glo_ok X G (c.facts (by simp [fa, fa0, fa1, fa2, fa3, fa4]))) bBadRooms bBadDoors bNotJoined bNoRoom ex6⟩
  have X_need_room : StandsX P w K mg base 3 "need_room" ["house", "thing"] (spNeedR K (He.ga K "House") (He.ga K "NoRoom")) := standsX_at X G c (n := 14) (i := 16) (by rfl) (by simp [fa, fa0, fa1, fa2, fa3, fa4]) (fun _ _ _ _ _ _ us hl => match us, hl with | [u0, u1], _ => rfl) fun F => ok_needR F hH hA eNoRoom
  have X_beside : StandsX P w K mg base 4 "beside" ["house", "room"] (spBesR K (He.ga K "House") (He.ga K "NoRoom")) := standsX_at X G c (n := 13) (i := 15) (by rfl) (by simp [fa, fa0, fa1, fa2, fa3, fa4]) (fun _ _ _ _ _ _ us hl => match us, hl with | [u0, u1], _ => rfl) fun F => ok_besR F hH X_need_room
  obtain ⟨d_S_ref, F_S_ref⟩ := top_at c (n := 36) (x := "_law_refused_right") (i := 39) (by rfl)
  have S_ref : Stands P w K mg base 10 "_law_refused_right" ["stream", "rooms", "doors"] (spRefR (lamT K)) := ⟨_, d_S_ref, ok_refR (T := lamT K) (funC_of F_S_ref) tS (TB _ (List.mem_map.mpr ⟨("_law_refused_right", none), by simp [tf], rfl⟩)) (by unfold lamT; simp) (lamT_u1 ex7) (fre (by simp [fa, fa0, fa1, fa2, fa3, fa4])) S_same S__law_draw V_pick S__law_odd_name S__law_odd_door mf MK GI gH bI, He.glo_ok X G (c.facts (by simp [fa, fa0, fa1, fa2, fa3, fa4])), F_S_ref.kp, F_S_ref.bindsN (fun _ _ _ _ _ _ us hl => match us, hl with | [u0, u1, u2], _ => rfl)⟩
  obtain ⟨d_S_ap, F_S_ap⟩ := top_at c (n := 37) (x := "_law_apart_right") (i := 40) (by rfl)
  have S_ap : Stands P w K mg base 10 "_law_apart_right" ["stream", "rooms", "doors"] (spRefR (lamT K)) := ⟨_, d_S_ap, ok_apR (T := lamT K) (funC_of F_S_ap) tS tAp (TB _ (List.mem_map.mpr ⟨("_law_apart_right", none), by simp [tf], rfl⟩)) (by unfold lamT; simp) (lamT_u2 ex7) S_same S__law_draw S__law_h_way mf MK GI gH bI, He.glo_ok X G (c.facts (by simp [fa, fa0, fa1, fa2, fa3, fa4])), F_S_ap.kp, F_S_ap.bindsN (fun _ _ _ _ _ _ us hl => match us, hl with | [u0, u1, u2], _ => rfl)⟩
  obtain ⟨d_S_bs, F_S_bs⟩ := top_at c (n := 38) (x := "_law_beside_right") (i := 41) (by rfl)
  have S_bs : Stands P w K mg base 10 "_law_beside_right" ["house", "rooms", "doors"] (spBsR (He.ga K "House") (lamT K)) := ⟨_, d_S_bs, ok_bsR (T := lamT K) (funC_of F_S_bs) (TB _ (List.mem_map.mpr ⟨("_law_beside_right", none), by simp [tf], rfl⟩)) (by unfold lamT; simp) (lamT_u3 ex7) S_same L_beside X_beside mf, He.glo_ok X G (c.facts (by simp [fa, fa0, fa1, fa2, fa3, fa4])), F_S_bs.kp, F_S_bs.bindsN (fun _ _ _ _ _ _ us hl => match us, hl with | [u0, u1, u2], _ => rfl)⟩
  have S__law_equal_right : Stands P w K mg base 10 "_law_equal_right" ["stream", "house", "rooms", "doors"] (spEqR (He.ga K "House")) := stands_at X G c (n := 39) (i := 42) (by rfl) (by simp [fa, fa0, fa1, fa2, fa3, fa4]) (fun _ _ _ _ _ _ us hl => match us, hl with | [u0, u1, u2, u3], _ => rfl) fun F => ok_eqR F tEq eqT V_pick S__law_mixed L_beside MK GJ gH bI
  exact ok_law1 (T := lamT K) (funC_of F) (F.bindsN (fun _ _ _ _ _ _ us hl => match us, hl with | [u0], _ => rfl)) tL1 eqT hH doorsO lenO S__law_start S__law_h_house V_pick S_loose2 S_same S_ref S_ap S_bs S__law_equal_right MK GJ gH bI
end
end Lamp
set_option maxHeartbeats 8000000
namespace Lamp
open PySem PySem.W PySem.Spec PySem.Calls PyProof.Rows L2
theorem run (w : World) : HandSHeadRun.RunEq R qV hk ob 40000 nms w := by
  intro os
  obtain ⟨s, hs, h1⟩ := Option.map_eq_some_iff.mp (run1 w os)
  obtain ⟨h1a, h1b⟩ := Prod.mk.inj h1
  have got : ∀ {α : Type} {f : PySem.W.SharedT → α} {v : α}, (endW w os).map f = some v → f s = v := fun {α f v} z => by
    rw [hs] at z
    exact Option.some.inj z
  have h2 : lookK (HandSHeadRun.getT s) (fun K => (fa.all fun f => f.ok K)) = true := got (run2 w os)
  have h3 : lookK (HandSHeadRun.getT s) (fun K => (fn.all fun d => d.ok K, fn.map fun d => He.fnW K d.at_)) = (true, fn.map He.DefD.val) := got (run3 w os)
  have h4 : lookK (HandSHeadRun.getT s) (fun K => exB K && He.tabsB (HandSHeadRun.getT s) tf K) = true := got (run4 w os)
  rw [lookK_eq] at h2 h3 h4
  obtain ⟨h5, h6⟩ := Prod.mk.inj h3
  have eo : ob s = hk.val w := by
    show obY fa fn tf exB (HandSHeadRun.getT s) = He.valX fn [] w
    unfold obY
    rw [lvls_eq, frF_eq, h4]
    have ed : He.obsD fa fn (He.frT (HandSHeadRun.getT s) (asY (HandSHeadRun.getT s))) = He.valD fn := by
      unfold He.obsD He.valD
      rw [h2, h5, h6]
      rfl
    unfold He.obsT He.valX He.valT
    rw [ed]
    rfl
  show (endW w os).map _ = _
  rw [hs]
  show some (HandSHeadRun.looksF R.prog (PySem.W.boot_heap w.params) s.abs, HandSHeadRun.seenQ qV nms (importedModules R.prog.main.body) (fun s => PySem.W.xlAt qV [] s && PySem.W.recOk R.toRowW.records s) s.abs, ob s) = _
  rw [h1a, h1b, eo]
  rfl
end Lamp
namespace Lamp
open PySem PySem.Spec PyProof.Rows L2
abbrev RL : PySem.W.OpenLaw := PySem.Challenge.rw_lamplight_k01_houses_told
theorem walk {q : Program} {loose : List Str} {XP : (Str → Option Value) → Heap → Prop} : PySem.W.WalkO q loose XP hk.says R.toRowW dLaw [] fun f vs => PySem.call f vs := by
  refine Att.attach_callB (l := RL) (n := 63) rfl (by kernel_rfl) fun w s₀ s₁ mg mb fA o pm cd doc a vs ns G Y ho hd hcd hmg hobj hints hlen hbits hg => ?_
  obtain ⟨K, KX, c⟩ := Y
  have nm : dLaw.name = ("law" : Str) := by kernel_rfl
  have hm : mg ("law" : Str) = some (.ref fA) := by
    rw [← nm]
    exact hmg
  have e := hm.symm.trans (He.glo_ok KX G.T.g (c.t.d.facts (by simp [fa, fa0, fa1, fa2, fa3, fa4])))
  cases e
  obtain ⟨fd, F⟩ := top_at c.t.d (n := 40) (x := "law") (i := 43) (by rfl)
  refine entry_runs (K := K) (k := 11) (cs := tf.map (He.cT K)) (x := "script") (sp := spLaw1 K (lamT K)) KX G.T.g G.T.b G.T.builtins G.T.nolimit hg (fun p hp => ?_) G.T.bmain hobj hints (Nat.le_trans hlen (by decide)) ⟨rfl, by decide, by decide⟩
    (fun base hK hns TB => law_of c.t.d hK hns c.more TB F) fun H hH hS => ⟨a, ns, rfl, hS, lamT_new hH, fun _ => rfl⟩
  obtain ⟨z, hz, rfl⟩ := List.mem_map.mp hp
  exact ⟨c.empty z hz, c.out z hz, PySem.W.codeHd_of_K KX (c.hd z hz)⟩
end Lamp
open PySem PySem.W PySem.Calls PyProof.Rows
theorem PySem.Challenge.cw_lamplight_k01_houses_told_holds : PySem.Challenge.rw_lamplight_k01_houses_told.Holds := by
  w_on; o_law
  refine HandSHeadRun.head_any (r := Lamp.R) (q := view Lamp.R.prog [43]) (H := Lamp.hk) (ob := Lamp.ob) (M := 40000) (loose := Lamp.nms) (d := Lamp.dLaw) (kwd := []) Lamp.ob_eq
    (by kernel_rfl) (fun s => by kernel_rfl) Lamp.run (by kernel_rfl) (by kernel_rfl) (by kernel_rfl) (by rfl) (by first | assumption | decide +kernel) (by decide +kernel) ⟨rfl, rfl, rfl, rfl, rfl, by decide +kernel⟩ ?hw ?hc
  case hw => w_witness2
  case hc => exact Lamp.walk
