import PyProof.Rows.All
import Wide.All
import OpenK.AllK
import Wide.FinOn
import KE.KStateDown
import HandS.Head0
import HandS.Head1
import HandS.Head2
import HandS.HeadEnd
import HandS.HeadHook1
import HandS.HeadHook2
import HandS.HeadHook4
import HandS.Words
import HandS.Base
import HandS.Call
import HandS.HeadHook3
import HandS.ExcInit
import HandS.ExcField
import HandS.List
import HandS.Comp
import HandS.Iter
import HandS.IsInst
import HandS.Wide
import HandS.More
import HandS.ExcOwn
import KE.KeyNested
import HandS.TupAny
import HandS.Deep
import HandS.TupMul
import HandS.Style
import HandS.Zip
import HandS.Walk
import HandS.WordsExc
import HandS.Defaults
import HandS.ExcCtx
import HandS.TupSets
import PyProof.LongRange
import PyProof.RangeFor
import HandS.Dict
import HandS.TupLen
import KE.KDictDisplayH
import KE.SortData
import HandS.DictTup
import KE.KDictZip
import HandS.DictComp
import PyProof.DictMoreH
import HandS.SetKeys
import PyProof.ListRange
import HandS.Sort
import HandS.WordsDict
import HandS.Small
import PyProof.Rows.RuleB_pow
import HandS.Text
import HandS.FStr
import HandS.EndBits
import PyProof.AutoSeq1
import HandS.Steps
import HandS.StrMore
import HandS.Hot
import HandS.HotCalls
import HandS.ExcInitHot
import PyProof.StrOps2
import HandS.Replace
import HandS.ReplaceLit
import KE.DatumOrd
import PyProof.ReprRoads
import PySem.Challenge.RW_squarethreads_k46_whole_lines_bent
set_option Elab.async false
set_option linter.all false
set_option maxRecDepth 100000
set_option Elab.async false
set_option linter.all false
set_option maxRecDepth 100000
namespace Ev
open PySem PySem.Spec PyProof.Rows L2
/-- whether an exception of the class c is one of the class h -/
def subE (c h : Str) : Bool := c == h || h == ("ThreadError" : Str)
abbrev iniP : Str × Option Str := ("ThreadError", some "__init__")
def oexB (K : PySem.W.Frag) (C : Addr) : Bool := match K.lookup C with
  | some ⟨.type t, _, .cls cd, sl⟩ => (match cd.mro, sl.toList with
    | .ref C' :: bm, [_, _, _, _, some (.builtin n), _] => decide (t = "type") && (decide (C' = C) && (decide (n = "ValueError.__new__") && (!cd.hasDel && (cd.hasDict && PySem.HandSPX.refsVE bm))))
    | _, _ => false)
  | _ => false
def exB1 (K : PySem.W.Frag) (cs : List Str) (c : Str) : Bool :=
  oexB K (He.ga K c) && (He.eqO (PySem.W.findIn K (.ref (He.ga K c)) "__setattr__") (some (some (.builtin "object.__setattr__"))) && (decide (PySem.W.subIn K (.ref (He.ga K c)) (.type "BaseException") = some true) &&
  (decide (PySem.W.typeIn K (.ref (He.ga K c)) = some (.type "type")) && (PySem.W.keepIn K (.ref (He.ga K c)) && (xfB K (He.ga K c) && (He.eqO (PySem.W.findIn K (.ref (He.ga K c)) "value") (some none) &&
  (He.eqO (PySem.W.findIn K (.ref (He.ga K c)) "__init__") (some (some (.ref (He.fAd K iniP)))) && ((He.Fa.glo c).ok K && cs.all fun h => decide (PySem.W.exmOne K (.ref (He.ga K c)) (.ref (He.ga K h)) = some (subE c h))))))))))
def exB (cs : List Str) (K : PySem.W.Frag) : Bool := decide (PySem.W.typeIn K (.ref (He.fAd K iniP)) = some (.type "function")) && cs.all fun c => exB1 K cs c
end Ev

set_option maxHeartbeats 4000000
namespace Lz
open PySem PySem.Spec PyProof.Rows L2
def top (i : Nat) : Stmt := PySem.Challenge.pw_squarethreads_k46_whole_lines_bent.main.body.getD i (.Pass ⟨0, 0, 0, 0⟩)
abbrev s_is_whole : Stmt := top 4
abbrev s_is_count : Stmt := top 5
abbrev s_is_index : Stmt := top 6
abbrev s_is_posture : Stmt := top 8
abbrev s_is_turn : Stmt := top 9
abbrev s_is_box : Stmt := top 11
abbrev s_told_integer : Stmt := top 14
abbrev s__told_integers : Stmt := top 15
abbrev s__told_rows : Stmt := top 16
abbrev s_read_cell : Stmt := top 17
abbrev s__first_line : Stmt := top 18
abbrev s__alone : Stmt := top 19
abbrev s_read_box : Stmt := top 20
abbrev s__told_box : Stmt := top 21
abbrev s_read_spans : Stmt := top 22
abbrev s__told_spans : Stmt := top 23
abbrev s_read_make : Stmt := top 24
abbrev s__told_make : Stmt := top 25
abbrev s__law_well : Stmt := top 27
abbrev s__law_draw : Stmt := top 28
abbrev s__law_same : Stmt := top 29
abbrev s__law_power : Stmt := top 30
abbrev s__law_integer : Stmt := top 31
abbrev s__law_above : Stmt := top 32
abbrev s__law_door : Stmt := top 33
abbrev s__law_said : Stmt := top 34
abbrev s__law_said_parts : Stmt := top 35
abbrev s__law_sign : Stmt := top 36
abbrev s__law_odd_word : Stmt := top 37
abbrev s__law_bent_signs : Stmt := top 38
abbrev s__law_bent_parts : Stmt := top 39
abbrev s__law_integer_in : Stmt := top 40
abbrev s__law_all_in : Stmt := top 41
abbrev s__law_integers_in : Stmt := top 42
abbrev s__law_parts_in : Stmt := top 43
abbrev s__law_found : Stmt := top 44
abbrev s__law_due : Stmt := top 45
abbrev s__law_read : Stmt := top 46
abbrev s__law_told : Stmt := top 47
abbrev s__law_met : Stmt := top 48
abbrev s__law_bent : Stmt := top 49
abbrev s_law : Stmt := top 50
def d_is_whole : He.DefD := ⟨("is_whole", none), "is_whole", "is_whole", defArgs s_is_whole, defBody s_is_whole, defScope s_is_whole, [], []⟩
def d_is_count : He.DefD := ⟨("is_count", none), "is_count", "is_count", defArgs s_is_count, defBody s_is_count, defScope s_is_count, [], []⟩
def d_is_index : He.DefD := ⟨("is_index", none), "is_index", "is_index", defArgs s_is_index, defBody s_is_index, defScope s_is_index, [], []⟩
def d_is_posture : He.DefD := ⟨("is_posture", none), "is_posture", "is_posture", defArgs s_is_posture, defBody s_is_posture, defScope s_is_posture, [], []⟩
def d_is_turn : He.DefD := ⟨("is_turn", none), "is_turn", "is_turn", defArgs s_is_turn, defBody s_is_turn, defScope s_is_turn, [], []⟩
def d_is_box : He.DefD := ⟨("is_box", none), "is_box", "is_box", defArgs s_is_box, defBody s_is_box, defScope s_is_box, [], []⟩
def d_told_integer : He.DefD := ⟨("told_integer", none), "told_integer", "told_integer", defArgs s_told_integer, defBody s_told_integer, defScope s_told_integer, [], []⟩
def d__told_integers : He.DefD := ⟨("_told_integers", none), "_told_integers", "_told_integers", defArgs s__told_integers, defBody s__told_integers, defScope s__told_integers, [], []⟩
def d__told_rows : He.DefD := ⟨("_told_rows", none), "_told_rows", "_told_rows", defArgs s__told_rows, defBody s__told_rows, defScope s__told_rows, [], []⟩
def d_read_cell : He.DefD := ⟨("read_cell", none), "read_cell", "read_cell", defArgs s_read_cell, defBody s_read_cell, defScope s_read_cell, [], []⟩
def d__first_line : He.DefD := ⟨("_first_line", none), "_first_line", "_first_line", defArgs s__first_line, defBody s__first_line, defScope s__first_line, [], []⟩
def d__alone : He.DefD := ⟨("_alone", none), "_alone", "_alone", defArgs s__alone, defBody s__alone, defScope s__alone, [], []⟩
def d_read_box : He.DefD := ⟨("read_box", none), "read_box", "read_box", defArgs s_read_box, defBody s_read_box, defScope s_read_box, [], []⟩
def d__told_box : He.DefD := ⟨("_told_box", none), "_told_box", "_told_box", defArgs s__told_box, defBody s__told_box, defScope s__told_box, [], []⟩
def d_read_spans : He.DefD := ⟨("read_spans", none), "read_spans", "read_spans", defArgs s_read_spans, defBody s_read_spans, defScope s_read_spans, [], []⟩
def d__told_spans : He.DefD := ⟨("_told_spans", none), "_told_spans", "_told_spans", defArgs s__told_spans, defBody s__told_spans, defScope s__told_spans, [], []⟩
def d_read_make : He.DefD := ⟨("read_make", none), "read_make", "read_make", defArgs s_read_make, defBody s_read_make, defScope s_read_make, [], []⟩
def d__told_make : He.DefD := ⟨("_told_make", none), "_told_make", "_told_make", defArgs s__told_make, defBody s__told_make, defScope s__told_make, [], []⟩
def d__law_well : He.DefD := ⟨("_law_well", none), "_law_well", "_law_well", defArgs s__law_well, defBody s__law_well, defScope s__law_well, [], []⟩
def d__law_draw : He.DefD := ⟨("_law_draw", none), "_law_draw", "_law_draw", defArgs s__law_draw, defBody s__law_draw, defScope s__law_draw, [], []⟩
def d__law_same : He.DefD := ⟨("_law_same", none), "_law_same", "_law_same", defArgs s__law_same, defBody s__law_same, defScope s__law_same, [], []⟩
def d__law_power : He.DefD := ⟨("_law_power", none), "_law_power", "_law_power", defArgs s__law_power, defBody s__law_power, defScope s__law_power, [], []⟩
def d__law_integer : He.DefD := ⟨("_law_integer", none), "_law_integer", "_law_integer", defArgs s__law_integer, defBody s__law_integer, defScope s__law_integer, [], []⟩
def d__law_above : He.DefD := ⟨("_law_above", none), "_law_above", "_law_above", defArgs s__law_above, defBody s__law_above, defScope s__law_above, [], []⟩
def d__law_door : He.DefD := ⟨("_law_door", none), "_law_door", "_law_door", defArgs s__law_door, defBody s__law_door, defScope s__law_door, [], []⟩
def d__law_said : He.DefD := ⟨("_law_said", none), "_law_said", "_law_said", defArgs s__law_said, defBody s__law_said, defScope s__law_said, [], []⟩
def d__law_said_parts : He.DefD := ⟨("_law_said_parts", none), "_law_said_parts", "_law_said_parts", defArgs s__law_said_parts, defBody s__law_said_parts, defScope s__law_said_parts, [], []⟩
def d__law_sign : He.DefD := ⟨("_law_sign", none), "_law_sign", "_law_sign", defArgs s__law_sign, defBody s__law_sign, defScope s__law_sign, [], []⟩
def d__law_odd_word : He.DefD := ⟨("_law_odd_word", none), "_law_odd_word", "_law_odd_word", defArgs s__law_odd_word, defBody s__law_odd_word, defScope s__law_odd_word, [], []⟩
def d__law_bent_signs : He.DefD := ⟨("_law_bent_signs", none), "_law_bent_signs", "_law_bent_signs", defArgs s__law_bent_signs, defBody s__law_bent_signs, defScope s__law_bent_signs, [], []⟩
def d__law_bent_parts : He.DefD := ⟨("_law_bent_parts", none), "_law_bent_parts", "_law_bent_parts", defArgs s__law_bent_parts, defBody s__law_bent_parts, defScope s__law_bent_parts, [], []⟩
def d__law_integer_in : He.DefD := ⟨("_law_integer_in", none), "_law_integer_in", "_law_integer_in", defArgs s__law_integer_in, defBody s__law_integer_in, defScope s__law_integer_in, [], []⟩
def d__law_all_in : He.DefD := ⟨("_law_all_in", none), "_law_all_in", "_law_all_in", defArgs s__law_all_in, defBody s__law_all_in, defScope s__law_all_in, [], []⟩
def d__law_integers_in : He.DefD := ⟨("_law_integers_in", none), "_law_integers_in", "_law_integers_in", defArgs s__law_integers_in, defBody s__law_integers_in, defScope s__law_integers_in, [], []⟩
def d__law_parts_in : He.DefD := ⟨("_law_parts_in", none), "_law_parts_in", "_law_parts_in", defArgs s__law_parts_in, defBody s__law_parts_in, defScope s__law_parts_in, [], []⟩
def d__law_found : He.DefD := ⟨("_law_found", none), "_law_found", "_law_found", defArgs s__law_found, defBody s__law_found, defScope s__law_found, [], []⟩
def d__law_due : He.DefD := ⟨("_law_due", none), "_law_due", "_law_due", defArgs s__law_due, defBody s__law_due, defScope s__law_due, [], []⟩
def d__law_read : He.DefD := ⟨("_law_read", none), "_law_read", "_law_read", defArgs s__law_read, defBody s__law_read, defScope s__law_read, [], []⟩
def d__law_told : He.DefD := ⟨("_law_told", none), "_law_told", "_law_told", defArgs s__law_told, defBody s__law_told, defScope s__law_told, [], []⟩
def d__law_met : He.DefD := ⟨("_law_met", none), "_law_met", "_law_met", defArgs s__law_met, defBody s__law_met, defScope s__law_met, [], []⟩
def d__law_bent : He.DefD := ⟨("_law_bent", none), "_law_bent", "_law_bent", defArgs s__law_bent, defBody s__law_bent, defScope s__law_bent, [], []⟩
def d_law : He.DefD := ⟨("law", none), "law", "law", defArgs s_law, defBody s_law, defScope s_law, [], []⟩
abbrev s_ini : Stmt := inClass (top 1) 0
def d_ini : He.DefD := ⟨("ThreadError", some "__init__"), "__init__", "ThreadError.__init__", defArgs s_ini, defBody s_ini, defScope s_ini, [], []⟩
def fn : List He.DefD := [d_is_whole, d_is_count, d_is_index, d_is_posture, d_is_turn, d_is_box, d_told_integer, d__told_integers, d__told_rows, d_read_cell, d__first_line, d__alone, d_read_box, d__told_box, d_read_spans, d__told_spans, d_read_make, d__told_make, d__law_well, d__law_draw, d__law_same, d__law_power, d__law_integer, d__law_above, d__law_door, d__law_said, d__law_said_parts, d__law_sign, d__law_odd_word, d__law_bent_signs, d__law_bent_parts, d__law_integer_in, d__law_all_in, d__law_integers_in, d__law_parts_in, d__law_found, d__law_due, d__law_read, d__law_told, d__law_met, d__law_bent, d_law, d_ini]
def fa : List He.Fa := [.glo "is_whole", .glo "is_count", .glo "is_index", .glo "is_posture", .glo "is_turn", .glo "is_box", .glo "told_integer", .glo "_told_integers", .glo "_told_rows", .glo "read_cell", .glo "_first_line", .glo "_alone", .glo "read_box", .glo "_told_box", .glo "read_spans", .glo "_told_spans", .glo "read_make", .glo "_told_make", .glo "_law_well", .glo "_law_draw", .glo "_law_same", .glo "_law_power", .glo "_law_integer", .glo "_law_above", .glo "_law_door", .glo "_law_said", .glo "_law_said_parts", .glo "_law_sign", .glo "_law_odd_word", .glo "_law_bent_signs", .glo "_law_bent_parts", .glo "_law_integer_in", .glo "_law_all_in", .glo "_law_integers_in", .glo "_law_parts_in", .glo "_law_found", .glo "_law_due", .glo "_law_read", .glo "_law_told", .glo "_law_met", .glo "_law_bent", .glo "law", .free "ValueError", .free "abs", .free "all", .free "bool", .free "int", .free "isinstance", .free "len", .free "list", .free "max", .free "min", .free "range", .free "str", .free "tuple", .int "MOST_DIGITS" 40]
def loose : List PySem.Str := (["__name__", "ThreadError", "Unreadable", "is_whole", "is_count", "is_index", "is_posture", "is_turn", "is_box", "MOST_DIGITS", "told_integer", "_told_integers", "_told_rows", "read_cell", "_first_line", "_alone", "read_box", "_told_box", "read_spans", "_told_spans", "read_make", "_told_make", "_law_well", "_law_draw", "_law_same", "_law_power", "_law_integer", "_law_above", "_law_door", "_law_said"] : List PySem.Str) ++ (["_law_said_parts", "_law_sign", "_law_odd_word", "_law_bent_signs", "_law_bent_parts", "_law_integer_in", "_law_all_in", "_law_integers_in", "_law_parts_in", "_law_found", "_law_due", "_law_read", "_law_told", "_law_met", "_law_bent"] : List PySem.Str)
abbrev R : PySem.W.OpenRow := PySem.W.OpenLaw.row PySem.Challenge.rw_squarethreads_k46_whole_lines_bent
abbrev hk : PySem.W.Hook := He.hookX 5 fa fn [] [] (Ev.exB (["ThreadError", "Unreadable"] : List Str))
def ob (s : PySem.W.SharedT) : He.AlX := He.obsX 5 fa fn [] [] (Ev.exB (["ThreadError", "Unreadable"] : List Str)) (HandSHeadRun.getT s)
theorem ob_eq (s : PySem.W.SharedT) : ob s = hk.obs s.abs := He.obsX_eq (HandSHeadRun.getT_eq s)
theorem run (w : World) : HandSHeadRun.RunEq R (PySem.W.view R.prog [50]) hk ob 4000 loose w := by
  intro os
  kernel_rfl

end Lz
set_option Elab.async false
set_option linter.all false
set_option maxRecDepth 100000
namespace Ev
open PySem PySem.Spec PyProof.Rows L2

abbrev T := PyData
abbrev Sg := L2.St
/-- the one object of a dict whose keys are ints and tuples of such, nested -/
def nObj (d : Addr) (xs : List (NestedKey × Addr × V)) : HO := .ext fun h => xs.length ≤ sizeLine ∧ (d == sysModules) = false ∧
  ∃ (ys : List (NestedKey × Addr × Value)), Paired (fun (a : NestedKey × Addr × V) (b : NestedKey × Addr × Value) => a.1 = b.1 ∧ a.2.1 = b.2.1 ∧ RelV a.2.2 b.2.2) xs ys ∧
    ∃ (P : Program) (w : World) (o : Obj) (es : Array DictEntry) (ep : Nat), h.get? d = some o ∧ o.ExactDict ∧ o.data = .dict es ep ∧ es.toList = ys.map (entryOfKey (nestedKind P w)) ∧ (ys.map (·.1)).Nodup
/-- a thing that a name alone holds -/
inductive Bx where
  | l (xs : List T)
  | d (kvs : List (T × T))
  | m (kvs : List (T × T))
  | n (kvs : List (T × T))
def Bx.t : Bx → T
  | .l xs => .list xs
  | .d kvs => .dict kvs
  | .m kvs => .dict kvs
  | .n kvs => .dict kvs
/-- what a name holds -/
inductive Sl where
  | un
  | v (t : T)
  | ow (lent : Bool) (b : Bx)
  | fz (b : Bx)
abbrev En := List Sl
inductive Out (α : Type) where
  | ok (a : α) (e : En)
  | exc (c : Str) (t : T) (e : En)
  | bad
@[simp] def Out.bind {α β : Type} : Out α → (α → En → Out β) → Out β
  | .ok a e, f => f a e
  | .exc c t e, _ => .exc c t e
  | .bad, _ => .bad
/-- what an expression yields: a tree, what the name i holds, a new thing -/
inductive Od where
  | r (t : T)
  | s (i : Nat)
  | b (b : Bx)

/-- a key of a dict as a tree -/
def kyT : Key → T
  | .inl i => .int i
  | .inr x => .str x
mutual
/-- a value is a tree; its tuples are known as such -/
inductive Dp (K : PySem.W.Frag) (H : Hp) : V → PyData → Prop
  | non : Dp K H .non .none
  | bl (b : Bool) : Dp K H (.bl b) (.bool b)
  | int (i : Int) : Dp K H (.int i) (.int i)
  | str (x : Str) : Dp K H (.str x) (.str x)
  | lst {a : Addr} {xs : List V} {ds : List PyData} : SqL K H a xs → DpAll K H xs ds → Dp K H (.ref a) (.list ds)
  | tup {a : Addr} {xs : List V} {ds : List PyData} : H a = some (.tup xs) → DpAll K H xs ds → Dp K H (.ref a) (.tuple ds)
  | dct {a : Addr} {ks : List (List Key × V)} {kvs : List (PyData × PyData)} : H a = some (.dT ks) → DpKvs K H ks kvs → Dp K H (.ref a) (.dict kvs)
inductive DpAll (K : PySem.W.Frag) (H : Hp) : List V → List PyData → Prop
  | nil : DpAll K H [] []
  | cons {v : V} {vs : List V} {d : PyData} {ds : List PyData} : Dp K H v d → DpAll K H vs ds → DpAll K H (v :: vs) (d :: ds)
inductive DpKvs (K : PySem.W.Frag) (H : Hp) : List (List Key × V) → List (PyData × PyData) → Prop
  | nil : DpKvs K H [] []
  | cons {k : List Key} {v : V} {ks : List (List Key × V)} {d : PyData} {kvs : List (PyData × PyData)} : Dp K H v d → DpKvs K H ks kvs → DpKvs K H ((k, v) :: ks) ((.tuple (k.map kyT), d) :: kvs)
end
mutual
/-- no dict in it -/
def noD : T → Bool
  | .dict _ => false
  | .list ts => noDs ts
  | .tuple ts => noDs ts
  | .none => true
  | .bool _ => true
  | .int _ => true
  | .str _ => true
def noDs : List T → Bool
  | [] => true
  | t :: ts => noD t && noDs ts
end
mutual
theorem noD_lay : ∀ t : T, t.canLay0 = true → noD t = true
  | .none, _ => rfl
  | .bool _, _ => rfl
  | .int _, _ => rfl
  | .str _, _ => rfl
  | .list ts, c => by simp only [noD]; exact noDs_lay ts (by simpa [PyData.canLay0] using c)
  | .tuple ts, c => by simp only [noD]; exact noDs_lay ts (by simpa [PyData.canLay0] using c)
  | .dict _, c => nomatch c
theorem noDs_lay : ∀ ts : List T, PyData.canLayAll0 ts = true → noDs ts = true
  | [], _ => rfl
  | t :: ts, c => by
    have c' : t.canLay0 = true ∧ PyData.canLayAll0 ts = true := by simpa [PyData.canLayAll0] using c
    simp only [noDs, noD_lay t c'.1, noDs_lay ts c'.2, Bool.and_self]
end
mutual
theorem dp_hand {K : PySem.W.Frag} {H : Hp} : ∀ (t : T) {v : V}, noD t = true → Dp K H v t → L2.Dp K H v t
  | .none, _, _, h => by cases h; exact .non
  | .bool _, _, _, h => by cases h; exact .bl _
  | .int _, _, _, h => by cases h; exact .int _
  | .str _, _, _, h => by cases h; exact .str _
  | .list ts, _, c, h => by cases h with | lst a b => exact .lst a (dpAll_hand ts (by simpa [noD] using c) b)
  | .tuple ts, _, c, h => by cases h with | tup a b => exact .tup (SqT.of a) (dpAll_hand ts (by simpa [noD] using c) b)
  | .dict _, _, c, _ => nomatch c
theorem dpAll_hand {K : PySem.W.Frag} {H : Hp} : ∀ (ts : List T) {vs : List V}, noDs ts = true → DpAll K H vs ts → L2.DpAll K H vs ts
  | [], _, _, h => by cases h; exact .nil
  | t :: ts, _, c, h => by
    have c' : noD t = true ∧ noDs ts = true := by simpa [noDs] using c
    cases h with | cons a b => exact .cons (dp_hand t c'.1 a) (dpAll_hand ts c'.2 b)
end
theorem noD_sh {t : T} (h : SeqAt.shaped t = true) : noD t = true := noD_lay t (SeqAt.canLay_of_shaped h)
theorem dp_mono {K : PySem.W.Frag} {F F' : Hp} (ff : ∀ a o, F a = some o → F' a = some o) : ∀ (t : T) (v : V), Dp K F v t → Dp K F' v t := by
  have sl : ∀ {a xs}, SqL K F a xs → SqL K F' a xs := fun {a xs} h => by
    rcases h with h | h
    · rcases h with h | ⟨o, h⟩
      · exact .inl (.inl (ff _ _ h))
      · exact .inl (.inr ⟨o, ff _ _ h⟩)
    · exact .inr h
  intro t v h
  exact Dp.rec (motive_1 := fun v t _ => Dp K F' v t) (motive_2 := fun vs ts _ => DpAll K F' vs ts) (motive_3 := fun ks kvs _ => DpKvs K F' ks kvs)
    .non (fun b => .bl b) (fun i => .int i) (fun x => .str x) (fun h _ ih => .lst (sl h) ih) (fun h _ ih => .tup (ff _ _ h) ih) (fun h _ ih => .dct (ff _ _ h) ih) .nil (fun _ _ a b => .cons a b) .nil (fun _ _ a b => .cons a b) h
theorem dpAll_mono {K : PySem.W.Frag} {F F' : Hp} (ff : ∀ a o, F a = some o → F' a = some o) : ∀ {ts : List T} {vs : List V}, DpAll K F vs ts → DpAll K F' vs ts
  | [], _, h => by cases h; exact .nil
  | _ :: _, _, h => by cases h with | cons a b => exact .cons (dp_mono ff _ _ a) (dpAll_mono ff b)
theorem dpAll_len {K : PySem.W.Frag} {F : Hp} : ∀ {ts : List T} {vs : List V}, DpAll K F vs ts → vs.length = ts.length
  | [], _, h => by cases h; rfl
  | _ :: _, _, h => by cases h with | cons a b => simp [dpAll_len b]
theorem dpAll_app {K : PySem.W.Frag} {F : Hp} : ∀ {ts us : List T} {vs ws : List V}, DpAll K F vs ts → DpAll K F ws us → DpAll K F (vs ++ ws) (ts ++ us)
  | [], _, _, _, h, g => by cases h; exact g
  | _ :: _, _, _, _, h, g => by cases h with | cons a b => exact .cons a (dpAll_app b g)
theorem dpAll_get {K : PySem.W.Frag} {F : Hp} : ∀ {ts : List T} {vs : List V} {i : Nat} {t : T}, DpAll K F vs ts → ts[i]? = some t → ∃ v, vs[i]? = some v ∧ Dp K F v t
  | [], _, _, _, _, e => by simp at e
  | _ :: _, _, 0, _, h, e => by cases h with | cons a b => simp at e; subst e; exact ⟨_, rfl, a⟩
  | _ :: _, _, i + 1, _, h, e => by cases h with | cons a b => simpa using dpAll_get b (by simpa using e)
theorem dpAll_take {K : PySem.W.Frag} {F : Hp} : ∀ {ts : List T} {vs : List V} (n : Nat), DpAll K F vs ts → DpAll K F (vs.take n) (ts.take n)
  | _, _, 0, _ => .nil
  | [], _, _ + 1, h => by cases h; exact .nil
  | _ :: _, _, n + 1, h => by cases h with | cons a b => exact .cons a (dpAll_take n b)
theorem dpAll_drop {K : PySem.W.Frag} {F : Hp} : ∀ {ts : List T} {vs : List V} (n : Nat), DpAll K F vs ts → DpAll K F (vs.drop n) (ts.drop n)
  | _, _, 0, h => h
  | [], _, _ + 1, h => by cases h; exact .nil
  | _ :: _, _, n + 1, h => by cases h with | cons a b => exact dpAll_drop n b
theorem dpAll_set {K : PySem.W.Frag} {F : Hp} {t : T} {v : V} (d : Dp K F v t) : ∀ {ts : List T} {vs : List V} (n : Nat), DpAll K F vs ts → DpAll K F (vs.set n v) (ts.set n t)
  | [], _, _, h => by cases h; exact .nil
  | _ :: _, _, 0, h => by cases h with | cons a b => exact .cons d b
  | _ :: _, _, n + 1, h => by cases h with | cons a b => exact .cons a (dpAll_set d n b)

/-- a dict's entries -/
def KdR (K : PySem.W.Frag) (F : Hp) (ks : List (Key × V)) (kvs : List (T × T)) : Prop := Paired (fun p q => q.1 = kyT p.1 ∧ Dp K F p.2 q.2) ks kvs
theorem kdR_mono {K : PySem.W.Frag} {F F' : Hp} (ff : ∀ a o, F a = some o → F' a = some o) {ks : List (Key × V)} {kvs : List (T × T)} (h : KdR K F ks kvs) : KdR K F' ks kvs := by
  unfold KdR at h ⊢
  induction h with
  | nil => exact .nil
  | cons a _ ih => exact .cons ⟨a.1, dp_mono ff _ _ a.2⟩ ih
/-- the entries of a dict whose keys are tuples -/
def KmR (K : PySem.W.Frag) (F : Hp) (ks : List (List Key × V)) (kvs : List (T × T)) : Prop := Paired (fun p q => q.1 = .tuple (p.1.map kyT) ∧ Dp K F p.2 q.2) ks kvs
theorem kmR_mono {K : PySem.W.Frag} {F F' : Hp} (ff : ∀ a o, F a = some o → F' a = some o) {ks : List (List Key × V)} {kvs : List (T × T)} (h : KmR K F ks kvs) : KmR K F' ks kvs := by
  unfold KmR at h ⊢
  induction h with
  | nil => exact .nil
  | cons a _ ih => exact .cons ⟨a.1, dp_mono ff _ _ a.2⟩ ih
mutual
/-- a tree as such a key -/
def nkOf : T → Option NestedKey
  | .int i => some (.num i)
  | .tuple ts => (nkOfs ts).map .tup
  | .none => none
  | .bool _ => none
  | .str _ => none
  | .list _ => none
  | .dict _ => none
def nkOfs : List T → Option (List NestedKey)
  | [] => some []
  | t :: ts => match nkOf t, nkOfs ts with
    | some k, some ks => some (k :: ks)
    | _, _ => none
end
def nkD (t : T) : Option NestedKey := match nkOf t with
  | some k => if k.depth ≤ 8 then some k else none
  | none => none
def NmR (K : PySem.W.Frag) (F : Hp) (xs : List (NestedKey × Addr × V)) (kvs : List (T × T)) : Prop := Paired (fun q p => nkD p.1 = some q.1 ∧ Dp K F (.ref q.2.1) p.1 ∧ Dp K F q.2.2 p.2) xs kvs
theorem nmR_mono {K : PySem.W.Frag} {F F' : Hp} (ff : ∀ a o, F a = some o → F' a = some o) {xs : List (NestedKey × Addr × V)} {kvs : List (T × T)} (h : NmR K F xs kvs) : NmR K F' xs kvs := by
  unfold NmR at h ⊢
  induction h with
  | nil => exact .nil
  | cons a _ ih => exact .cons ⟨a.1, dp_mono ff _ _ a.2.1, dp_mono ff _ _ a.2.2⟩ ih
def BxAt (K : PySem.W.Frag) (F H : Hp) (p : Addr) : Bx → Prop
  | .l ts => ∃ xs, H p = some (.lst xs) ∧ DpAll K F xs ts
  | .d kvs => ∃ ks, H p = some (.dK ks) ∧ KdR K F ks kvs
  | .m kvs => ∃ ks, H p = some (.dT ks) ∧ KmR K F ks kvs
  | .n kvs => ∃ xs, H p = some (nObj p xs) ∧ NmR K F xs kvs
def RS (K : PySem.W.Frag) (F H : Hp) : Sl → Option V → Prop
  | .un, _ => True
  | .v t, o => ∃ x, o = some x ∧ Dp K F x t
  | .ow _ b, o => ∃ p, o = some (.ref p) ∧ F p = none ∧ BxAt K F H p b
  | .fz b, o => ∃ x, o = some x ∧ Dp K F x b.t
def Own (e : En) (σ : Sg) (p : Addr) : Prop := ∃ (i : Nat) (l : Bool) (b : Bx), e[i]? = some (Sl.ow l b) ∧ σ[i]? = some (some (V.ref p))
structure Rel (K : PySem.W.Frag) (e : En) (σ : Sg) (F H : Hp) : Prop where
  sub : ∀ a o, F a = some o → H a = some o
  len : e.length = σ.length
  at_ : ∀ (i : Nat) (s : Sl) (o : Option V), e[i]? = some s → σ[i]? = some o → RS K F H s o
  ne : ∀ (i j : Nat) (l : Bool) (b : Bx) (l' : Bool) (b' : Bx) (p : Addr), e[i]? = some (.ow l b) → e[j]? = some (.ow l' b') → σ[i]? = some (some (.ref p)) → σ[j]? = some (some (.ref p)) → i = j
def Lent (e : En) (i : Nat) : Prop := ∃ b, e[i]? = some (.ow true b) ∨ e[i]? = some (.fz b)
/-- what kinds of owning names there are stays -/
def SameKinds (e e1 : En) : Prop := ∀ (i : Nat) (l : Bool) (b : Bx), e1[i]? = some (Sl.ow l b) → ∃ b', e[i]? = some (Sl.ow l b')
structure Step (e e' : En) (σ : Sg) (F H F' H' : Hp) : Prop where
  ff : ∀ a o, F a = some o → F' a = some o
  keep : ∀ a o, H a = some o → ¬ Own e σ a → H' a = some o ∧ (F a = none → F' a = none)
  dom : ∀ a o, H a = some o → ∃ o', H' a = some o'
  own : ∀ a, Own e' σ a → Own e σ a
  lt : ∀ i, Lent e i → Lent e' i
  sk : SameKinds e e'
theorem Step.refl {e : En} {σ : Sg} {F H : Hp} : Step e e σ F H F H := ⟨fun _ _ h => h, fun _ _ h _ => ⟨h, fun x => x⟩, fun _ o h => ⟨o, h⟩, fun _ h => h, fun _ h => h, fun i l b h => ⟨b, h⟩⟩
theorem Step.trans {e e1 e2 : En} {σ : Sg} {F H F1 H1 F2 H2 : Hp} (a : Step e e1 σ F H F1 H1) (b : Step e1 e2 σ F1 H1 F2 H2) : Step e e2 σ F H F2 H2 where
  ff := fun x o h => b.ff _ _ (a.ff _ _ h)
  keep := fun x o h n => by
    obtain ⟨h1, f1⟩ := a.keep x o h n
    obtain ⟨h2, f2⟩ := b.keep x o h1 (fun z => n (a.own _ z))
    exact ⟨h2, fun z => f2 (f1 z)⟩
  dom := fun x o h => by
    obtain ⟨o1, h1⟩ := a.dom x o h
    exact b.dom x o1 h1
  own := fun x h => a.own _ (b.own _ h)
  lt := fun i h => b.lt _ (a.lt _ h)
  sk := fun i l z h => by
    obtain ⟨z1, h1⟩ := b.sk i l z h
    exact a.sk i l z1 h1
/-- an owned thing stands in the heap, apart from the trees -/
theorem Rel.owned {K : PySem.W.Frag} {e : En} {σ : Sg} {F H : Hp} {p : Addr} (R : Rel K e σ F H) (h : Own e σ p) : F p = none ∧ ∃ o, H p = some o := by
  obtain ⟨i, l, b, h1, h2⟩ := h
  obtain ⟨q, e1, f, x⟩ := R.at_ i _ _ h1 h2
  cases e1
  refine ⟨f, ?_⟩
  cases b with
  | l ts => obtain ⟨xs, hx, _⟩ := x; exact ⟨_, hx⟩
  | d kvs => obtain ⟨ks, hx, _⟩ := x; exact ⟨_, hx⟩
  | m kvs => obtain ⟨ks, hx, _⟩ := x; exact ⟨_, hx⟩
  | n kvs => obtain ⟨ks, hx, _⟩ := x; exact ⟨_, hx⟩

/-- what a value yielded is -/
def OdR (K : PySem.W.Frag) (σ : Sg) (Hs F H : Hp) (x : V) : Od → Prop
  | .r t => Dp K F x t
  | .s i => σ[i]? = some (some x)
  | .b b => ∃ p, x = .ref p ∧ Hs p = none ∧ F p = none ∧ BxAt K F H p b
abbrev SemE := En → Out Od
abbrev WX := Value → Option Addr → Sg → Hp → Prop
/-- an exception: of the class that the name c names, with the value t -/
def ExR (K : PySem.W.Frag) (F H : Hp) (c : Str) (t : T) (cls : Value) (d : Option Addr) : Prop :=
  cls = .ref (He.ga K c) ∧ ∃ dx v, d = some dx ∧ H dx = some (.xd [("value", v)]) ∧ Dp K F v t
end Ev

set_option Elab.async false
set_option linter.all false
set_option maxRecDepth 100000
namespace Ev
open PySem PySem.Spec PyProof.Rows L2
def Bx.tr : Bx → Option T
  | .l xs => some (.list xs)
  | .d _ => none
  | .m _ => none
  | .n _ => none
def slVal : Sl → Option T
  | .un => none
  | .v t => some t
  | .ow _ b => b.tr
  | .fz b => some b.t
def Od.val (e : En) : Od → Option T
  | .r t => some t
  | .s i => match e[i]? with
    | some z => slVal z
    | none => none
  | .b z => z.tr
section
variable {K : PySem.W.Frag} {W : WX} {e e1 e2 : En} {σ : Sg} {F H F1 H1 F2 H2 Hs : Hp} {p : Addr} {o : HO}
/-- a value; a list's own node may stand in H alone -/
def DpO (K : PySem.W.Frag) (F H : Hp) (x : V) : T → Prop
  | .list ts => ∃ p xs, x = .ref p ∧ SqL K H p xs ∧ DpAll K F xs ts
  | t => Dp K F x t
theorem sqL_mono {a : Addr} {xs : List V} (ff : ∀ a o, F a = some o → H a = some o) (h : SqL K F a xs) : SqL K H a xs := by
  rcases h with h | h
  · rcases h with h | ⟨o, h⟩
    · exact .inl (.inl (ff _ _ h))
    · exact .inl (.inr ⟨o, ff _ _ h⟩)
  · exact .inr h
theorem tupS {a : Addr} {xs : List V} (ff : ∀ a o, F a = some o → H a = some o) (h : F a = some (.tup xs)) : SqT K H a xs := SqT.of (ff _ _ h)
theorem sqT_mono {a : Addr} {xs : List V} (ff : ∀ a o, F a = some o → H a = some o) (h : SqT K F a xs) : SqT K H a xs := by
  rcases h with h | h
  · rcases h with h | ⟨o, h⟩
    · exact .inl (.inl (ff _ _ h))
    · exact .inl (.inr ⟨o, ff _ _ h⟩)
  · exact .inr h
theorem dpo_of {x : V} {t : T} (ff : ∀ a o, F a = some o → H a = some o) (d : Dp K F x t) : DpO K F H x t := by
  cases d with
  | lst a b => exact ⟨_, _, rfl, sqL_mono ff a, b⟩
  | tup a b => exact .tup a b
  | dct a b => exact .dct a b
  | non => exact .non
  | bl b => exact .bl b
  | int i => exact .int i
  | str z => exact .str z
theorem DpO.dp {x : V} {t : T} (ff : ∀ a o, F a = some o → H a = some o) (d : DpO K F H x t) : Dp K H x t := by
  cases t with
  | list ts => obtain ⟨p, xs, rfl, a, b⟩ := d; exact .lst a (dpAll_mono ff b)
  | tuple ts => exact dp_mono ff _ _ d
  | none => exact dp_mono ff _ _ d
  | bool _ => exact dp_mono ff _ _ d
  | int _ => exact dp_mono ff _ _ d
  | str _ => exact dp_mono ff _ _ d
  | dict _ => exact dp_mono ff _ _ d
theorem bx_dpo {b : Bx} {t : T} (x : BxAt K F H p b) (h : b.tr = some t) : DpO K F H (.ref p) t := by
  cases b with
  | l ts => obtain ⟨xs, hx, d⟩ := x; cases h; exact ⟨_, xs, rfl, SqL.of hx, d⟩
  | d kvs => cases h
  | m kvs => cases h
  | n kvs => cases h
theorem val_ok {x : V} {r : Od} {t : T} (R : Rel K e σ F H) (O : OdR K σ Hs F H x r) (h : r.val e = some t) : DpO K F H x t := by
  cases r with
  | r u => cases h; exact dpo_of R.sub O
  | b b => obtain ⟨p, rfl, _, _, z⟩ := O; exact bx_dpo z (by simpa [Od.val] using h)
  | s i =>
    have O : σ[i]? = some (some x) := O
    simp only [Od.val] at h
    cases q : e[i]? with
    | none => rw [q] at h; cases h
    | some s =>
      rw [q] at h
      have z := R.at_ i s _ q O
      cases s with
      | un => cases h
      | v u => cases h; obtain ⟨y, ey, d⟩ := z; cases ey; exact dpo_of R.sub d
      | ow l b => obtain ⟨p, ey, _, d⟩ := z; cases ey; exact bx_dpo d h
      | fz b => cases h; obtain ⟨y, ey, d⟩ := z; cases ey; exact dpo_of R.sub d
theorem fresh_not_own (R : Rel K e σ F H) (S : Step e e1 σ F H F1 H1) (h : H p = none) : ¬ Own e1 σ p := fun z => by
  obtain ⟨_, o, q⟩ := R.owned (S.own _ z)
  rw [h] at q; cases q
theorem bx_keep {b : Bx} (x : BxAt K F1 H1 p b) (ff : ∀ a o, F1 a = some o → F2 a = some o) (hk : ∀ o, H1 p = some o → H2 p = some o) : BxAt K F2 H2 p b := by
  cases b with
  | l ts => obtain ⟨xs, hx, d⟩ := x; exact ⟨xs, hk _ hx, dpAll_mono ff d⟩
  | d kvs => obtain ⟨ks, hx, d⟩ := x; exact ⟨ks, hk _ hx, kdR_mono ff d⟩
  | m kvs => obtain ⟨ks, hx, d⟩ := x; exact ⟨ks, hk _ hx, kmR_mono ff d⟩
  | n kvs => obtain ⟨ks, hx, d⟩ := x; exact ⟨ks, hk _ hx, nmR_mono ff d⟩
theorem bx_some {b : Bx} (x : BxAt K F1 H1 p b) : ∃ o, H1 p = some o := by
  cases b with
  | l ts => obtain ⟨xs, hx, _⟩ := x; exact ⟨_, hx⟩
  | d kvs => obtain ⟨ks, hx, _⟩ := x; exact ⟨_, hx⟩
  | m kvs => obtain ⟨ks, hx, _⟩ := x; exact ⟨_, hx⟩
  | n kvs => obtain ⟨ks, hx, _⟩ := x; exact ⟨_, hx⟩
/-- a value stays what it is while others are worked out -/
theorem od_stay {x : V} {r : Od} (O : OdR K σ H F1 H1 x r) (no : ∀ p, H p = none → ¬ Own e1 σ p) (S : Step e1 e2 σ F1 H1 F2 H2) : OdR K σ H F2 H2 x r := by
  cases r with
  | r t => exact dp_mono S.ff _ _ O
  | s i => exact O
  | b b =>
    obtain ⟨p, rfl, hn, hf, z⟩ := O
    obtain ⟨o, ho⟩ := bx_some z
    have k := S.keep p o ho (no p hn)
    exact ⟨p, rfl, hn, k.2 hf, bx_keep z S.ff fun o' h' => by rw [ho] at h'; cases h'; exact k.1⟩
theorem od_back {x : V} {r : Od} (O : OdR K σ H1 F2 H2 x r) (S : Step e e1 σ F H F1 H1) : OdR K σ H F2 H2 x r := by
  cases r with
  | r t => exact O
  | s i => exact O
  | b b =>
    obtain ⟨p, rfl, hn, hf, z⟩ := O
    refine ⟨p, rfl, ?_, hf, z⟩
    cases q : H p with
    | none => rfl
    | some o => obtain ⟨o', e'⟩ := S.dom _ _ q; rw [hn] at e'; cases e'
/-! ### new things -/
theorem laid_own (R : Rel K e σ F H) (hp : H p = none) : Rel K e σ F (upd H p o) := by
  refine ⟨fun a u h => ?_, R.len, fun i s u h1 h2 => ?_, R.ne⟩
  · have := R.sub _ _ h
    rw [upd_ne (ne_of_none this hp)]; exact this
  · have z := R.at_ i s u h1 h2
    cases s with
    | un => trivial
    | v t => exact z
    | fz b => exact z
    | ow l b =>
      obtain ⟨q, eq, hf, x⟩ := z
      refine ⟨q, eq, hf, bx_keep x (fun _ _ h => h) fun o' h' => ?_⟩
      rw [upd_ne (ne_of_none h' hp)]; exact h'
theorem laid_own_step (hp : H p = none) : Step e e σ F H F (upd H p o) :=
  ⟨fun _ _ h => h, fun a u h _ => ⟨by rw [upd_ne (ne_of_none h hp)]; exact h, fun z => z⟩, fun a u h => ⟨u, by rw [upd_ne (ne_of_none h hp)]; exact h⟩, fun _ h => h, fun _ h => h, fun i l b h => ⟨b, h⟩⟩
theorem sub_none (R : Rel K e σ F H) (hp : H p = none) : F p = none := by
  cases q : F p with
  | none => rfl
  | some o => rw [R.sub _ _ q] at hp; cases hp
/-- F grows by what stands in H, apart from what is owned -/
theorem frz_rel (R : Rel K e σ F H) (hp : H p = some o) (no : ¬ Own e σ p) (hf : F p = none) : Rel K e σ (upd F p o) H := by
  have ff : ∀ a u, F a = some u → upd F p o a = some u := fun a u h => by rw [upd_ne (ne_of_none h hf)]; exact h
  refine ⟨fun a u h => ?_, R.len, fun i s u h1 h2 => ?_, R.ne⟩
  · by_cases q : a = p
    · subst q; rw [upd_same] at h; cases h; exact hp
    · rw [upd_ne q] at h; exact R.sub _ _ h
  · have z := R.at_ i s u h1 h2
    cases s with
    | un => trivial
    | v t => obtain ⟨x, ex, d⟩ := z; exact ⟨x, ex, dp_mono ff _ _ d⟩
    | fz b => obtain ⟨x, ex, d⟩ := z; exact ⟨x, ex, dp_mono ff _ _ d⟩
    | ow l b =>
      obtain ⟨q, eq, hf', x⟩ := z
      have ne : q ≠ p := fun z => no ⟨i, l, b, h1, by rw [h2, eq, z]⟩
      exact ⟨q, eq, by rw [upd_ne ne]; exact hf', bx_keep x ff fun _ h => h⟩
theorem frz_step (S : Step e e1 σ F H F1 H1) (hp : H p = none) (hf : F1 p = none) : Step e e1 σ F H (upd F1 p o) H1 :=
  ⟨fun a u h => by rw [upd_ne (ne_of_none (S.ff _ _ h) hf)]; exact S.ff _ _ h, fun a u h n => ⟨(S.keep a u h n).1, fun z => by rw [upd_ne (ne_of_none h hp)]; exact (S.keep a u h n).2 z⟩, S.dom, S.own, S.lt, S.sk⟩
theorem laid_frz (R : Rel K e σ F H) (hp : H p = none) : Rel K e σ (upd F p o) (upd H p o) :=
  frz_rel (laid_own R hp) upd_same (fun z => by obtain ⟨_, u, q⟩ := R.owned z; rw [hp] at q; cases q) (sub_none R hp)
theorem laid_frz_step (R : Rel K e σ F H) (S : Step e1 e σ F1 H1 F H) (hp : H p = none) : Step e1 e σ F1 H1 (upd F p o) (upd H p o) := by
  have h1 : H1 p = none := by
    cases q : H1 p with
    | none => rfl
    | some u => obtain ⟨o', e'⟩ := S.dom _ _ q; rw [hp] at e'; cases e'
  exact frz_step (S.trans (laid_own_step hp)) h1 (sub_none R hp)
/-! ### readings -/
/-- what an outcome asks of what is wanted behind it; rel: how a value is told (the heap ahead, F, H behind) -/
def OutX {α β : Type} (K : PySem.W.Frag) (W : WX) (rel : Hp → Hp → Hp → β → α → Prop) (r : Out α) (e : En) (σ : Sg) (F H : Hp) (Q : β → Hp → Prop) : Prop := match r with
  | .ok r e' => ∀ x F' H', Rel K e' σ F' H' → Step e e' σ F H F' H' → rel H F' H' x r → Q x H'
  | .exc c t e' => ∀ F' H' cls d, Rel K e' σ F' H' → Step e e' σ F H F' H' → ExR K F' H' c t cls d → W cls d σ H'
  | .bad => False
/-- the reading of a meaning -/
def tX {α β : Type} (K : PySem.W.Frag) (W : WX) (rel : Sg → Hp → Hp → Hp → β → α → Prop) (m : En → Out α) (σ : Sg) (H : Hp) (Q : β → Hp → Prop) : Prop := ∃ e F, Rel K e σ F H ∧ OutX K W (rel σ) (m e) e σ F H Q
theorem tX_bind {α β γ δ : Type} {rel : Sg → Hp → Hp → Hp → β → α → Prop} {rel' : Hp → Hp → Hp → δ → γ → Prop} {m : En → Out α} {f : α → En → Out γ} {Q : δ → Hp → Prop} (R1 : Rel K e1 σ F1 H1) (S1 : Step e e1 σ F H F1 H1) (h : OutX K W rel' ((m e1).bind f) e σ F H Q) :
    tX K W rel m σ H1 (fun x H2 => ∃ r e2 F2, Rel K e2 σ F2 H2 ∧ Step e1 e2 σ F1 H1 F2 H2 ∧ rel σ H1 F2 H2 x r ∧ OutX K W rel' (f r e2) e σ F H Q) := by
  refine ⟨e1, F1, R1, ?_⟩
  cases q : m e1 with
  | ok r e' => rw [q] at h; exact fun x F' H' R' S' O => ⟨r, e', F', R', S', O, h⟩
  | exc c t e' => rw [q] at h; exact fun F' H' cls d R' S' X => h F' H' cls d R' (S1.trans S') X
  | bad => rw [q] at h; exact h
theorem OutX.imp {α β : Type} {rel : Hp → Hp → Hp → β → α → Prop} {r : Out α} {Q Q' : β → Hp → Prop} (h : OutX K W rel r e σ F H Q) (m : ∀ x H', Q x H' → Q' x H') : OutX K W rel r e σ F H Q' := by
  cases r with
  | ok r e' => exact fun x F' H' R S O => m _ _ (h x F' H' R S O)
  | exc c t e' => exact h
  | bad => exact h
theorem tX_imp {α β : Type} {rel : Sg → Hp → Hp → Hp → β → α → Prop} {m : En → Out α} {Q Q' : β → Hp → Prop} (h : tX K W rel m σ H Q) (k : ∀ x H', Q x H' → Q' x H') : tX K W rel m σ H Q' := by
  obtain ⟨e, F, R, h⟩ := h
  exact ⟨e, F, R, h.imp k⟩
/-- what is asked where an operation hands r back, the heap being H -/
def Fin (K : PySem.W.Frag) (F H : Hp) (Q : VK) : Od → Prop
  | .r w => (∀ v, Dp K F v w → Q v H) ∧ ∀ ts p xs, w = .tuple ts → H p = none → DpAll K F xs ts → Q (.ref p) (upd H p (.tup xs))
  | .b (.l ts) => ∀ p xs, H p = none → DpAll K F xs ts → Q (.ref p) (upd H p (.lst xs))
  | _ => False
theorem step_none (S : Step e e1 σ F H F1 H1) (h : H1 p = none) : H p = none := by
  cases q : H p with
  | none => rfl
  | some u => obtain ⟨o', e'⟩ := S.dom _ _ q; rw [h] at e'; cases e'
/-- w is what operations hand back -/
def Back : Od → Prop
  | .r _ => True
  | .b (.l _) => True
  | _ => False
theorem fin_of {r : Od} {Q : VK} (R : Rel K e1 σ F1 H1) (S : Step e e1 σ F H F1 H1) (go : OutX K W (OdR K σ) (.ok r e1) e σ F H Q) (hr : Back r) : Fin K F1 H1 Q r := by
  cases r with
  | r w =>
    refine ⟨fun v d => go v F1 H1 R S d, fun ts p xs ew hp d => ?_⟩
    subst ew
    refine go _ _ _ (laid_frz R hp) (laid_frz_step R S hp) (.tup upd_same (dpAll_mono (fun a u q => ?_) d))
    rw [upd_ne (ne_of_none q (sub_none R hp))]; exact q
  | s i => exact hr.elim
  | b b =>
    cases b with
    | d _ => exact hr.elim
    | m _ => exact hr.elim
    | n _ => exact hr.elim
    | l ts => exact fun p xs hp d => go _ _ _ (laid_own R hp) (S.trans (laid_own_step hp)) ⟨p, rfl, step_none S hp, sub_none R hp, xs, upd_same, d⟩
end
theorem pe_mono {X : Cx} {ex : Expr} {t t' : TE} (h : PE X ex t) (m : ∀ σ H Q, t' σ H Q → t σ H Q) : PE X ex t' := ⟨fun pins s σ H Q I q => h.run pins s σ H Q I (m σ H Q q)⟩
theorem pt_mono {X : Cx} {ex : Expr} {t t' : TT} (h : PT X ex t) (m : ∀ σ H Q, t' σ H Q → t σ H Q) : PT X ex t' := ⟨fun pins s σ H Q I q => h.run pins s σ H Q I (m σ H Q q)⟩
theorem ps_mono {X : Cx} {ex : Stmt} {t t' : TS} (h : PS X ex t) (m : ∀ D σ H, t' D σ H → t D σ H) : PS X ex t' := ⟨fun pins s σ H D I q => h.run pins s σ H D I (m D σ H q)⟩
theorem pss_mono {X : Cx} {ex : List Stmt} {t t' : TS} (h : PSs X ex t) (m : ∀ D σ H, t' D σ H → t D σ H) : PSs X ex t' := ⟨fun pins s σ H D I q => h.run pins s σ H D I (m D σ H q)⟩
theorem pa_mono {X : Cx} {ex : List Expr} {t t' : TA} (h : PA X ex t) (m : ∀ σ H Q, t' σ H Q → t σ H Q) : PA X ex t' := ⟨fun pos pins s σ H Q I q => h.run pos pins s σ H Q I (m σ H Q q)⟩
abbrev tE (K : PySem.W.Frag) (W : WX) (m : SemE) : TE := tX K W (fun σ => OdR K σ) m
abbrev SemT := En → Out Bool
abbrev tT (K : PySem.W.Frag) (W : WX) (m : SemT) : TT := tX K W (fun _ _ _ _ (x : Bool) r => x = r) m
abbrev SemA := En → Out (List Od)
/-- the values of a list of things yielded; the new ones stand apart -/
inductive OdsR (K : PySem.W.Frag) (σ : Sg) (Hs F H : Hp) : List Od → List V → Prop
  | nil : OdsR K σ Hs F H [] []
  | cons {r : Od} {x : V} {rs : List Od} {xs : List V} : OdR K σ Hs F H x r → OdsR K σ Hs F H rs xs →
      (∀ (z : Bx) (p : Addr), r = .b z → x = .ref p → ∀ (j : Nat) (z' : Bx), rs[j]? = some (.b z') → xs[j]? ≠ some (.ref p)) → OdsR K σ Hs F H (r :: rs) (x :: xs)
abbrev tA (K : PySem.W.Frag) (W : WX) (m : SemA) : TA := tX K W (fun σ Hs F H xs rs => OdsR K σ Hs F H rs xs) m
abbrev QE (X : Cx) (W : WX) (ex : Expr) (m : SemE) : Prop := PE X ex (tE X.K W m)
abbrev QT (X : Cx) (W : WX) (ex : Expr) (m : SemT) : Prop := PT X ex (tT X.K W m)
abbrev QA (X : Cx) (W : WX) (ex : List Expr) (m : SemA) : Prop := PA X ex (tA X.K W m)

/-! ### names and constants -/
section
variable {X : Cx} {W : WX} {a b c : Expr} {ma mb mc : SemE} {pos : Pos}
def eVar (i : Nat) : SemE := fun e => match e[i]? with
  | some (.v t) => .ok (.r t) e
  | some (.fz b) => .ok (.r b.t) e
  | some (.ow _ _) => .ok (.s i) e
  | _ => .bad
theorem Rel.var {K : PySem.W.Frag} {e : En} {σ : Sg} {F H : Hp} (R : Rel K e σ F H) {i : Nat} {s : Sl} (h : e[i]? = some s) : ∃ o, σ[i]? = some o ∧ RS K F H s o := by
  have hi : i < σ.length := by rw [← R.len]; exact (List.getElem?_eq_some_iff.mp h).1
  exact ⟨_, List.getElem?_eq_getElem hi, R.at_ i s _ h (List.getElem?_eq_getElem hi)⟩
theorem qvar {i : Nat} {x : Str} (hN : X.N[i]? = some x) (hv : Vis X.env.scope x) (hd : (x == ("__debug__" : Str)) = false := by decide) (hcd : (x == ("__classdict__" : Str)) = false := by decide) : QE X W (.Name x pos) (eVar i) := by
  refine pe_mono (pe_var hN hv hd hcd) fun σ H Q h => ?_
  obtain ⟨e, F, R, h⟩ := h
  unfold eVar at h
  cases q : e[i]? with
  | none => rw [q] at h; exact h.elim
  | some s =>
    rw [q] at h
    obtain ⟨o, hs, z⟩ := R.var q
    cases s with
    | un => exact h.elim
    | v t => obtain ⟨y, rfl, d⟩ := z; exact ⟨y, hs, h y F H R .refl d⟩
    | fz b => obtain ⟨y, rfl, d⟩ := z; exact ⟨y, hs, h y F H R .refl d⟩
    | ow l b => obtain ⟨p, rfl, hf, x⟩ := z; exact ⟨_, hs, h _ F H R .refl hs⟩
def eK (t : T) : SemE := fun e => .ok (.r t) e
theorem qint {i j} : QE X W (.Constant (.int i) j pos) (eK (.int i)) := pe_mono pe_int fun σ H Q ⟨e, F, R, h⟩ => h _ F H R .refl (.int i)
theorem qbl {b j} : QE X W (.Constant (.bool b) j pos) (eK (.bool b)) := pe_mono pe_bl fun σ H Q ⟨e, F, R, h⟩ => h _ F H R .refl (.bl b)
theorem qnon {j} : QE X W (.Constant .none j pos) (eK .none) := pe_mono pe_non fun σ H Q ⟨e, F, R, h⟩ => h _ F H R .refl .non
theorem qstr {x j} : QE X W (.Constant (.str x) j pos) (eK (.str x)) := pe_mono pe_str fun σ H Q ⟨e, F, R, h⟩ => h _ F H R .refl (.str x)

/-! ### two operands -/
def eTwo {α : Type} (ma mb : SemE) (g : Od → Od → En → Out α) : En → Out α := fun e => (ma e).bind fun r e1 => (mb e1).bind fun r2 e2 => g r r2 e2
/-- the state behind two operands -/
def At2 {α β : Type} (K : PySem.W.Frag) (W : WX) (rel : Hp → Hp → Hp → β → α → Prop) (g : Od → Od → En → Out α) (σ : Sg) (x y : V) (H2 : Hp) (Q : β → Hp → Prop) : Prop :=
  ∃ e F H r r2 e2 F2, Rel K e σ F H ∧ Rel K e2 σ F2 H2 ∧ Step e e2 σ F H F2 H2 ∧ OdR K σ H F2 H2 x r ∧ OdR K σ H F2 H2 y r2 ∧ OutX K W rel (g r r2 e2) e σ F H Q
theorem two {α β : Type} {K : PySem.W.Frag} {rel : Sg → Hp → Hp → Hp → β → α → Prop} {g : Od → Od → En → Out α} {σ : Sg} {H : Hp} {Q : β → Hp → Prop} (h : tX K W rel (eTwo ma mb g) σ H Q) :
    tE K W ma σ H fun x H1 => tE K W mb σ H1 fun y H2 => At2 K W (rel σ) g σ x y H2 Q := by
  obtain ⟨e, F, R, h⟩ := h
  refine tX_imp (tX_bind R .refl h) fun x H1 ⟨r, e1, F1, R1, S1, O1, h1⟩ => ?_
  refine tX_imp (tX_bind R1 S1 h1) fun y H2 ⟨r2, e2, F2, R2, S2, O2, h2⟩ => ?_
  exact ⟨e, F, H, r, r2, e2, F2, R, R2, S1.trans S2, od_stay O1 (fun p hp => fresh_not_own R S1 hp) S2, od_back O2 S1, h2⟩
/-- the values of two operands -/
def v2 (g : T → T → Option Od) : Od → Od → En → Out Od := fun r r2 e => match r.val e, r2.val e with
  | some t, some u => (match g t u with
    | some w => .ok w e
    | none => .bad)
  | _, _ => .bad
/-- a rule of an operation on two values, met by g -/
def Does2 (K : PySem.W.Frag) (r : R2) (g : T → T → Option Od) : Prop :=
  ∀ x y t u w F H (Q : VK), (∀ a o, F a = some o → H a = some o) → DpO K F H x t → DpO K F H y u → g t u = some w → Back w ∧ (Fin K F H Q w → r x y H Q)
theorem does2 {K : PySem.W.Frag} {r : R2} {g : T → T → Option Od} (hr : Does2 K r g) {σ : Sg} {x y : V} {H : Hp} {Q : VK} (h : At2 K W (OdR K σ) (v2 g) σ x y H Q) : r x y H Q := by
  obtain ⟨e, F, H0, r1, r2, e2, F2, R, R2, S, O1, O2, go⟩ := h
  unfold v2 at go
  cases q1 : r1.val e2 with
  | none => rw [q1] at go; exact go.elim
  | some t =>
    cases q2 : r2.val e2 with
    | none => rw [q1, q2] at go; exact go.elim
    | some u =>
      rw [q1, q2] at go
      cases q3 : g t u with
      | none => simp only [q3] at go; exact go.elim
      | some w =>
        simp only [q3] at go
        obtain ⟨bk, z⟩ := hr x y t u w F2 H Q R2.sub (val_ok R2 O1 q1) (val_ok R2 O2 q2) q3
        exact z (fin_of R2 S go bk)
abbrev eOp2 (g : T → T → Option Od) (ma mb : SemE) : SemE := eTwo ma mb (v2 g)
theorem qop {f : Operator} {r : R2} {g : T → T → Option Od} (ho : OpR X (binaryOp f) r) (hr : Does2 X.K r g) (ha : QE X W a ma) (hb : QE X W b mb) : QE X W (.BinOp a f b pos) (eOp2 g ma mb) :=
  pe_mono (pe_op ho ha hb) fun σ H Q h => tX_imp (two h) fun x H1 h1 => tX_imp h1 fun y H2 h2 => does2 hr h2
theorem qcmp {f : CmpOp} {r : R2} {g : T → T → Option Od} (ho : OpR X (compareOp f) r) (hr : Does2 X.K r g) (ha : QE X W a ma) (hb : QE X W b mb) (hm : behindInMarks f b = false := by first | rfl | exact nomark _) : QE X W (.Compare a [f] [b] pos) (eOp2 g ma mb) :=
  pe_mono (pe_cmpR ho ha hb hm) fun σ H Q h => tX_imp (two h) fun x H1 h1 => tX_imp h1 fun y H2 h2 => does2 hr h2
end
end Ev

set_option Elab.async false
set_option linter.all false
set_option maxRecDepth 100000
namespace Ev
open PySem PySem.Spec PyProof.Rows L2
section
variable {X : Cx} {W : WX} {a b c : Expr} {ma mb mc : SemE} {pos : Pos}
/-! ### argument lists -/
def aNil : SemA := fun e => .ok [] e
def aCons (m : SemE) (r : SemA) : SemA := fun e => (m e).bind fun x e1 => (r e1).bind fun xs e2 => .ok (x :: xs) e2
theorem qa_nil : QA X W [] aNil := pa_mono pa_nil fun σ H Q ⟨e, F, R, h⟩ => h _ F H R .refl .nil
theorem ods_back {K : PySem.W.Frag} {σ : Sg} {e e1 : En} {F H F1 H1 F2 H2 : Hp} (S : Step e e1 σ F H F1 H1) : ∀ {rs xs}, OdsR K σ H1 F2 H2 rs xs → OdsR K σ H F2 H2 rs xs
  | _, _, .nil => .nil
  | _, _, .cons a b n => .cons (od_back a S) (ods_back S b) n
theorem ods_tmp {K : PySem.W.Frag} {σ : Sg} {Hs F H : Hp} : ∀ {rs : List Od} {xs : List V}, OdsR K σ Hs F H rs xs → ∀ (j : Nat) (z : Bx), rs[j]? = some (.b z) → ∃ p, xs[j]? = some (.ref p) ∧ Hs p = none ∧ F p = none ∧ BxAt K F H p z
  | _, _, .nil, j, z, h => by simp at h
  | _, _, .cons a b n, 0, z, h => by simp at h; subst h; obtain ⟨p, rfl, q⟩ := a; exact ⟨p, rfl, q⟩
  | _, _, .cons a b n, j + 1, z, h => by simpa using ods_tmp b j z (by simpa using h)
theorem qa_cons {es : List Expr} {mr : SemA} (ha : QE X W a ma) (hr : QA X W es mr) (hs : starEach (a :: es) X.env = (false, eval a X.env) :: starEach es X.env := by rfl) : QA X W (a :: es) (aCons ma mr) := by
  refine pa_mono (pa_cons ha hr hs) fun σ H Q h => ?_
  obtain ⟨e, F, R, h⟩ := h
  refine tX_imp (tX_bind R .refl h) fun x H1 ⟨r, e1, F1, R1, S1, O1, h1⟩ => ?_
  refine tX_imp (tX_bind (rel := fun σ Hs F H xs rs => OdsR X.K σ Hs F H rs xs) R1 S1 h1) fun xs H2 ⟨rs, e2, F2, R2, S2, O2, h2⟩ => ?_
  refine h2 _ F2 H2 R2 (S1.trans S2) (.cons (od_stay O1 (fun p hp => fresh_not_own R S1 hp) S2) (ods_back S1 O2) fun z p er ex j z' hj hx => ?_)
  subst er
  obtain ⟨p', ep, hn, hf, bx⟩ := O1
  rw [ex] at ep; cases ep
  obtain ⟨q, hq, hn2, _⟩ := ods_tmp O2 j z' hj
  rw [hx] at hq; cases hq
  obtain ⟨o, ho⟩ := bx_some bx
  rw [hn2] at ho; cases ho
def vals (e : En) : List Od → Option (List T)
  | [] => some []
  | r :: rs => match r.val e, vals e rs with
    | some t, some ts => some (t :: ts)
    | _, _ => none
abbrev DpOs (K : PySem.W.Frag) (F H : Hp) (ts : List T) (xs : List V) : Prop := Paired (fun t x => DpO K F H x t) ts xs
theorem vals_ok {K : PySem.W.Frag} {σ : Sg} {e : En} {F H Hs : Hp} (R : Rel K e σ F H) : ∀ {rs : List Od} {xs : List V} {ts : List T}, OdsR K σ Hs F H rs xs → vals e rs = some ts → DpOs K F H ts xs
  | _, _, _, .nil, h => by cases h; exact .nil
  | r :: rs, _, _, .cons a b n, h => by
    unfold vals at h
    cases q : r.val e with
    | none => rw [q] at h; cases h
    | some t =>
      cases q2 : vals e rs with
      | none => rw [q, q2] at h; cases h
      | some us => rw [q, q2] at h; cases h; exact .cons (val_ok R a q) (vals_ok R b q2)
/-- a built-in on values -/
def eFn (g : List T → Option Od) (ma : SemA) : SemE := fun e => (ma e).bind fun rs e1 => match vals e1 rs with
  | some ts => (match g ts with
    | some w => .ok w e1
    | none => .bad)
  | none => .bad
def DoesN (K : PySem.W.Frag) (r : List V → Hp → VK → Prop) (g : List T → Option Od) : Prop :=
  ∀ xs ts w F H (Q : VK), (∀ a o, F a = some o → H a = some o) → DpOs K F H ts xs → g ts = some w → Back w ∧ (Fin K F H Q w → r xs H Q)
theorem fn_read {K : PySem.W.Frag} {r : List V → Hp → VK → Prop} {g : List T → Option Od} {m : SemA} (hr : DoesN K r g) {σ : Sg} {H : Hp} {Q : VK} (h : tE K W (eFn g m) σ H Q) : tCB r (tA K W m) σ H Q := by
  obtain ⟨e, F, R, h⟩ := h
  refine tX_imp (tX_bind (rel := fun σ Hs F H xs rs => OdsR K σ Hs F H rs xs) R .refl h) fun xs H1 ⟨rs, e1, F1, R1, S1, O1, h1⟩ => ?_
  cases q : vals e1 rs with
  | none => simp only [q] at h1; exact h1.elim
  | some ts =>
    simp only [q] at h1
    cases q2 : g ts with
    | none => simp only [q2] at h1; exact h1.elim
    | some w =>
      simp only [q2] at h1
      obtain ⟨bk, z⟩ := hr xs ts w F1 H1 Q R1.sub (vals_ok R1 O1 q) q2
      exact z (fin_of R1 S1 h1 bk)
theorem qfnB {x : Str} {p : Pos} {es : List Expr} {id : String} {r : List V → Hp → VK → Prop} {g : List T → Option Od} {m : SemA} (hc : CallR X (.builtin id) r) (hr : DoesN X.K r g) (hg : Gl X x) (hm : X.mg x = none) (hv : bootBuiltins x = some (.builtin id)) (ha : QA X W (a :: es) m)
    (hn : x ≠ "__name__" := by decide) (hdb : (x == ("__debug__" : Str)) = false := by decide)
    (he : starEach (a :: es) X.env = (false, eval a X.env) :: starEach es X.env := by rfl) (hpl : (backTo pos (starEach es X.env)).any (·.1) = false := by rfl) : QE X W (.Call (.Name x p) (a :: es) [] pos) (eFn g m) :=
  pe_mono (pe_callB hc hg hm hv ha hn hdb he hpl) fun σ H Q h => fn_read hr h
theorem qfnT {x : Str} {p : Pos} {es : List Expr} {id : String} {r : List V → Hp → VK → Prop} {g : List T → Option Od} {m : SemA} (hc : CallR X (.type id) r) (hr : DoesN X.K r g) (hg : Gl X x) (hm : X.mg x = none) (hv : bootBuiltins x = some (.type id)) (ha : QA X W (a :: es) m)
    (hn : x ≠ "__name__" := by decide) (hdb : (x == ("__debug__" : Str)) = false := by decide)
    (he : starEach (a :: es) X.env = (false, eval a X.env) :: starEach es X.env := by rfl) (hpl : (backTo pos (starEach es X.env)).any (·.1) = false := by rfl) : QE X W (.Call (.Name x p) (a :: es) [] pos) (eFn g m) :=
  pe_mono (pe_callTy hc hg hm hv ha hn hdb he hpl) fun σ H Q h => fn_read hr h

/-! ### what a value becomes where it is kept in something else -/
def esc : Od → En → Option (T × En)
  | .r t, e => some (t, e)
  | .b z, e => match z.tr with
    | some t => some (t, e)
    | none => none
  | .s i, e => match e[i]? with
    | some (.v t) => some (t, e)
    | some (.fz z) => some (z.t, e)
    | some (.ow l z) => (match z.tr with
      | some t => some (t, e.set i (if l then .fz z else .v t))
      | none => none)
    | _ => none
theorem esc_own {K : PySem.W.Frag} {σ : Sg} {e : En} {F H : Hp} {i : Nat} {l : Bool} {z : Bx} {t : T} {x : V} (R : Rel K e σ F H) (h1 : e[i]? = some (.ow l z)) (h2 : σ[i]? = some (some x)) (hz : z.tr = some t) :
    ∃ F', Rel K (e.set i (if l then .fz z else .v t)) σ F' H ∧ Step e (e.set i (if l then .fz z else .v t)) σ F H F' H ∧ Dp K F' x t ∧ ∀ a, F' a = F a ∨ x = .ref a := by
  obtain ⟨p, ex, hf, bx⟩ := R.at_ i _ _ h1 h2
  cases ex
  cases z with
  | d _ => cases hz
  | m _ => cases hz
  | n _ => cases hz
  | l ts =>
    cases hz
    obtain ⟨xs, hx, d⟩ := bx
    have hi : i < e.length := (List.getElem?_eq_some_iff.mp h1).1
    have ff : ∀ a u, F a = some u → upd F p (.lst xs) a = some u := fun a u h => by rw [upd_ne (ne_of_none h hf)]; exact h
    have dx : Dp K (upd F p (.lst xs)) (.ref p) (.list ts) := .lst (SqL.of upd_same) (dpAll_mono ff d)
    have get : ∀ (j : Nat) (s : Sl), (e.set i (if l then .fz (.l ts) else .v (.list ts)))[j]? = some s → (j = i ∧ s = (if l then .fz (.l ts) else .v (.list ts))) ∨ (j ≠ i ∧ e[j]? = some s) := fun j s h => by
      by_cases q : i = j
      · subst q; rw [List.getElem?_set_self hi] at h; cases h; exact .inl ⟨rfl, rfl⟩
      · rw [List.getElem?_set_ne q] at h; exact .inr ⟨fun z => q z.symm, h⟩
    have notow : ∀ l' b', (if l then (Sl.fz (.l ts)) else .v (.list ts)) ≠ .ow l' b' := fun l' b' q => by cases l <;> cases q
    have own : ∀ a, Own (e.set i (if l then .fz (.l ts) else .v (.list ts))) σ a → Own e σ a := fun a ⟨j, l', b', g1, g2⟩ => by
      rcases get j _ g1 with ⟨_, q⟩ | ⟨_, q⟩
      · exact absurd q.symm (notow _ _)
      · exact ⟨j, l', b', q, g2⟩
    refine ⟨upd F p (.lst xs), ⟨fun a u h => ?_, by rw [List.length_set]; exact R.len, fun j s u g1 g2 => ?_, fun j k l1 b1 l2 b2 q g1 g2 g3 g4 => ?_⟩, ⟨ff, fun a u h n => ⟨h, fun z => ?_⟩, fun a u h => ⟨u, h⟩, own, fun j hj => ?_, fun j l' b' h => ?_⟩, dx, fun a => ?_⟩
    · by_cases q : a = p
      · subst q; rw [upd_same] at h; cases h; exact hx
      · rw [upd_ne q] at h; exact R.sub _ _ h
    · rcases get j s g1 with ⟨rfl, rfl⟩ | ⟨nj, q⟩
      · rw [h2] at g2; cases g2
        cases l with
        | true => exact ⟨_, rfl, dx⟩
        | false => exact ⟨_, rfl, dx⟩
      · have z := R.at_ j s u q g2
        cases s with
        | un => trivial
        | v t => obtain ⟨y, ey, d⟩ := z; exact ⟨y, ey, dp_mono ff _ _ d⟩
        | fz b => obtain ⟨y, ey, d⟩ := z; exact ⟨y, ey, dp_mono ff _ _ d⟩
        | ow l' b =>
          obtain ⟨p', ey, hf', bx'⟩ := z
          subst ey
          have np : p' ≠ p := fun z => by subst z; exact nj (R.ne j i l' b l (.l ts) p' q h1 g2 h2)
          exact ⟨p', rfl, by rw [upd_ne np]; exact hf', bx_keep bx' ff fun _ h => h⟩
    · rcases get j _ g1 with ⟨_, q'⟩ | ⟨_, g1'⟩
      · exact absurd q'.symm (notow _ _)
      · rcases get k _ g2 with ⟨_, q'⟩ | ⟨_, g2'⟩
        · exact absurd q'.symm (notow _ _)
        · exact R.ne j k l1 b1 l2 b2 q g1' g2' g3 g4
    · have np : a ≠ p := fun z => n ⟨i, l, .l ts, h1, by rw [h2, z]⟩
      rw [upd_ne np]; exact z
    · obtain ⟨b', q⟩ := hj
      by_cases qi : i = j
      · subst qi
        rw [h1] at q
        rcases q with q | q
        · cases q; exact ⟨.l ts, .inr (by rw [List.getElem?_set_self hi]; rfl)⟩
        · cases q
      · exact ⟨b', by rw [List.getElem?_set_ne qi]; exact q⟩
    · rcases get j _ h with ⟨_, q⟩ | ⟨_, q⟩
      · exact absurd q.symm (notow _ _)
      · exact ⟨b', q⟩
    · by_cases q : a = p
      · exact .inr (by rw [q])
      · exact .inl (upd_ne q)
theorem ods_grow {K : PySem.W.Frag} {σ : Sg} {Hs F F' H : Hp} (ff : ∀ a o, F a = some o → F' a = some o) : ∀ {rs : List Od} {xs : List V}, OdsR K σ Hs F H rs xs → (∀ (p : Addr) (j : Nat) (z : Bx), rs[j]? = some (.b z) → xs[j]? = some (.ref p) → Hs p = none → F' p = F p) → OdsR K σ Hs F' H rs xs
  | _, _, .nil, _ => .nil
  | _, _, .cons (r := r) a b n, k => by
    refine .cons ?_ (ods_grow ff b fun p j z h1 h2 => k p (j + 1) z (by simpa using h1) (by simpa using h2)) n
    cases r with
    | r t => exact dp_mono ff _ _ a
    | s i => exact a
    | b z =>
      obtain ⟨p, rfl, hn, hf, bx⟩ := a
      exact ⟨p, rfl, hn, by rw [k p 0 z rfl rfl hn]; exact hf, bx_keep bx ff fun _ h => h⟩
theorem esc_ok {K : PySem.W.Frag} {σ : Sg} {e0 e e' : En} {F0 H0 F H : Hp} {x : V} {r : Od} {t : T} (R0 : Rel K e0 σ F0 H0) (R : Rel K e σ F H) (S : Step e0 e σ F0 H0 F H) (O : OdR K σ H0 F H x r) (h : esc r e = some (t, e')) :
    ∃ F', Rel K e' σ F' H ∧ Step e0 e' σ F0 H0 F' H ∧ Dp K F' x t ∧ (∀ a o, F a = some o → F' a = some o) ∧ ∀ a, F' a = F a ∨ (x = .ref a ∧ ((∃ z, r = .b z) ∨ Own e σ a)) := by
  cases r with
  | r u => cases h; exact ⟨F, R, S, O, fun _ _ h => h, fun a => .inl rfl⟩
  | b z =>
    obtain ⟨p, rfl, hn, hf, bx⟩ := O
    simp only [esc] at h
    cases q : z.tr with
    | none => rw [q] at h; cases h
    | some u =>
      rw [q] at h; cases h
      cases z with
      | d _ => cases q
      | m _ => cases q
      | n _ => cases q
      | l ts =>
        cases q
        obtain ⟨xs, hx, d⟩ := bx
        have ff : ∀ a u, F a = some u → upd F p (.lst xs) a = some u := fun a u h => by rw [upd_ne (ne_of_none h hf)]; exact h
        refine ⟨upd F p (.lst xs), frz_rel R hx (fresh_not_own R0 S hn) hf, frz_step S hn hf, .lst (SqL.of upd_same) (dpAll_mono ff d), ff, fun a => ?_⟩
        by_cases q : a = p
        · subst q; exact .inr ⟨rfl, .inl ⟨_, rfl⟩⟩
        · exact .inl (upd_ne q)
  | s i =>
    have O : σ[i]? = some (some x) := O
    simp only [esc] at h
    cases q : e[i]? with
    | none => rw [q] at h; cases h
    | some s =>
      rw [q] at h
      have z := R.at_ i s _ q O
      cases s with
      | un => cases h
      | v u => cases h; obtain ⟨y, ey, d⟩ := z; cases ey; exact ⟨F, R, S, d, fun _ _ h => h, fun a => .inl rfl⟩
      | fz u => cases h; obtain ⟨y, ey, d⟩ := z; cases ey; exact ⟨F, R, S, d, fun _ _ h => h, fun a => .inl rfl⟩
      | ow l b =>
        cases q2 : b.tr with
        | none => simp only [q2] at h; cases h
        | some u =>
          simp only [q2] at h
          cases h
          obtain ⟨F', R', S', d', only⟩ := esc_own R q O q2
          exact ⟨F', R', S.trans S', d', S'.ff, fun a => (only a).imp id fun ea => ⟨ea, .inr ⟨i, l, b, q, by rw [O, ea]⟩⟩⟩
def escs : List Od → En → Option (List T × En)
  | [], e => some ([], e)
  | r :: rs, e => match esc r e with
    | some (t, e1) => (match escs rs e1 with
      | some (ts, e2) => some (t :: ts, e2)
      | none => none)
    | none => none
theorem escs_ok {K : PySem.W.Frag} {σ : Sg} {e0 : En} {F0 H0 H : Hp} (R0 : Rel K e0 σ F0 H0) : ∀ {rs : List Od} {xs : List V} {ts : List T} {e e' : En} {F : Hp}, Rel K e σ F H → Step e0 e σ F0 H0 F H → OdsR K σ H0 F H rs xs → escs rs e = some (ts, e') →
    ∃ F', Rel K e' σ F' H ∧ Step e0 e' σ F0 H0 F' H ∧ DpAll K F' xs ts ∧ ∀ a o, F a = some o → F' a = some o
  | [], _, _, _, _, F, R, S, .nil, h => by cases h; exact ⟨F, R, S, .nil, fun _ _ h => h⟩
  | r :: rs, _, _, e, _, F, R, S, .cons (x := x) (xs := xs) a b n, h => by
    unfold escs at h
    cases q : esc r e with
    | none => rw [q] at h; cases h
    | some te =>
      obtain ⟨t, e1⟩ := te
      simp only [q] at h
      cases q2 : escs rs e1 with
      | none => rw [q2] at h; cases h
      | some te2 =>
        obtain ⟨ts, e2⟩ := te2
        simp only [q2] at h
        cases h
        obtain ⟨F1, R1, S1, d1, ff1, only⟩ := esc_ok R0 R S a q
        have b1 : OdsR K σ H0 F1 H rs xs := ods_grow ff1 b fun p j z hj hx hn => by
          rcases only p with e | ⟨ex, e | e⟩
          · exact e
          · obtain ⟨z', e'⟩ := e
            exact absurd hx (n z' p e' ex j z hj)
          · exact absurd (S.own _ e) (fun w => by obtain ⟨_, o, q⟩ := R0.owned w; rw [hn] at q; cases q)
        obtain ⟨F2, R2, S2, d2, ff2⟩ := escs_ok R0 R1 S1 b1 q2
        exact ⟨F2, R2, S2, .cons (dp_mono ff2 _ _ d1) d2, fun a o h => ff2 _ _ (ff1 _ _ h)⟩
end
end Ev

set_option Elab.async false
set_option linter.all false
set_option maxRecDepth 100000
namespace Ev
open PySem PySem.Spec PyProof.Rows L2
section
variable {X : Cx} {W : WX} {a b c : Expr} {ma mb mc : SemE} {pos : Pos}
/-! ### displays -/
def eDisp (k : List T → Od) (m : SemA) : SemE := fun e => (m e).bind fun rs e1 => match escs rs e1 with
  | some (ts, e2) => if ts.length ≤ sizeLine then .ok (k ts) e2 else .bad
  | none => .bad
def eTup (m : SemA) : SemE := eDisp (fun ts => .r (.tuple ts)) m
def eLst (m : SemA) : SemE := eDisp (fun ts => .b (.l ts)) m
theorem qtup {es : List Expr} {k : Nat} {m : SemA} (h : QA X W es m) : QE X W (.Tuple es k pos) (eTup m) := by
  refine pe_mono (pe_tup h) fun σ H Q h => ?_
  obtain ⟨e, F, R, h⟩ := h
  refine tX_imp (tX_bind (rel := fun σ Hs F H xs rs => OdsR X.K σ Hs F H rs xs) R .refl h) fun xs H1 ⟨rs, e1, F1, R1, S1, O1, h1⟩ => ?_
  cases q : escs rs e1 with
  | none => simp only [q] at h1; exact h1.elim
  | some te =>
    obtain ⟨ts, e2⟩ := te
    simp only [q] at h1
    obtain ⟨F2, R2, S2, d2, _⟩ := escs_ok R R1 S1 O1 q
    by_cases hl : ts.length ≤ sizeLine
    · rw [if_pos hl] at h1
      refine ⟨by rw [dpAll_len d2]; exact hl, fun p hp => ?_⟩
      exact (fin_of R2 S2 h1 True.intro).2 ts p xs rfl hp d2
    · rw [if_neg hl] at h1; exact h1.elim
theorem qlst {es : List Expr} {m : SemA} (h : QA X W es m) : QE X W (.List es pos) (eLst m) := by
  refine pe_mono (pe_lst h) fun σ H Q h => ?_
  obtain ⟨e, F, R, h⟩ := h
  refine tX_imp (tX_bind (rel := fun σ Hs F H xs rs => OdsR X.K σ Hs F H rs xs) R .refl h) fun xs H1 ⟨rs, e1, F1, R1, S1, O1, h1⟩ => ?_
  cases q : escs rs e1 with
  | none => simp only [q] at h1; exact h1.elim
  | some te =>
    obtain ⟨ts, e2⟩ := te
    simp only [q] at h1
    obtain ⟨F2, R2, S2, d2, _⟩ := escs_ok R R1 S1 O1 q
    by_cases hl : ts.length ≤ sizeLine
    · rw [if_pos hl] at h1
      refine ⟨by rw [dpAll_len d2]; exact hl, fun p hp => ?_⟩
      exact (fin_of R2 S2 h1 True.intro : Fin X.K F2 H1 Q (.b (.l ts))) p xs hp d2
    · rw [if_neg hl] at h1; exact h1.elim

/-! ### a call of a def -/
abbrev FSem := List Sl → Out Od
/-- what a def is asked to do -/
def spF (K : PySem.W.Frag) (n : Nat) (m : FSem) : Sp := fun vs H Q E => vs.length = n ∧ tX K (fun cls d _ H' => E cls d H') (fun σ => OdR K σ) m (vs.map some) H Q
def toSl (e : En) : Od → Option Sl
  | .r t => some (.v t)
  | .b z => some (.ow true z)
  | .s i => match e[i]? with
    | some (.v t) => some (.v t)
    | some (.fz z) => some (.v z.t)
    | some (.ow _ z) => some (.ow true z)
    | _ => none
def toSls (e : En) : List Od → Option (List Sl)
  | [] => some []
  | r :: rs => match toSl e r, toSls e rs with
    | some s, some ss => some (s :: ss)
    | _, _ => none
def sIdx : List Od → List Nat
  | [] => []
  | .s i :: rs => i :: sIdx rs
  | _ :: rs => sIdx rs
def bk (l : Bool) : Sl → Sl
  | .ow _ z => .ow l z
  | .fz z => if l then .fz z else .v z.t
  | s => s
/-- what the callee did with what names hold -/
def wb : List Od → List Sl → En → En
  | .s i :: rs, s :: ss, e => wb rs ss (match e[i]? with
    | some (.ow l _) => e.set i (bk l s)
    | _ => e)
  | _ :: rs, _ :: ss, e => wb rs ss e
  | _, _, e => e
theorem wb_len : ∀ (rs : List Od) (ss : List Sl) (e : En), (wb rs ss e).length = e.length
  | [], _, _ => rfl
  | .s i :: rs, [], _ => rfl
  | .r _ :: rs, [], _ => rfl
  | .b _ :: rs, [], _ => rfl
  | .r _ :: rs, _ :: ss, e => wb_len rs ss e
  | .b _ :: rs, _ :: ss, e => wb_len rs ss e
  | .s i :: rs, s :: ss, e => by
    unfold wb
    rw [wb_len rs ss]
    split <;> simp
theorem wb_out {k : Nat} : ∀ (rs : List Od) (ss : List Sl) (e : En), (∀ l z, e[k]? = some (.ow l z) → Od.s k ∉ rs) → (wb rs ss e)[k]? = e[k]?
  | [], _, _, _ => rfl
  | .s i :: rs, [], _, _ => rfl
  | .r _ :: rs, [], _, _ => rfl
  | .b _ :: rs, [], _, _ => rfl
  | .r _ :: rs, _ :: ss, e, h => wb_out rs ss e fun l z q m => h l z q (List.mem_cons_of_mem _ m)
  | .b _ :: rs, _ :: ss, e, h => wb_out rs ss e fun l z q m => h l z q (List.mem_cons_of_mem _ m)
  | .s i :: rs, s :: ss, e, h => by
    unfold wb
    by_cases q : i = k
    · subst q
      have n : ∀ l z, e[i]? ≠ some (.ow l z) := fun l z q => h l z q List.mem_cons_self
      have e1 : (match e[i]? with
        | some (.ow l _) => e.set i (bk l s)
        | _ => e) = e := by
        cases w : e[i]? with
        | none => rfl
        | some y =>
          cases y with
          | ow l z => exact absurd w (n l z)
          | un => rfl
          | v _ => rfl
          | fz _ => rfl
      rw [e1]
      exact wb_out rs ss e fun l z q => absurd q (n l z)
    · have e1 : (match e[i]? with
        | some (.ow l _) => e.set i (bk l s)
        | _ => e)[k]? = e[k]? := by
        split
        · rw [List.getElem?_set_ne q]
        · rfl
      rw [wb_out rs ss _ fun l z w m => h l z (by rw [e1] at w; exact w) (List.mem_cons_of_mem _ m)]
      exact e1
theorem mem_sIdx {k : Nat} : ∀ {rs : List Od}, Od.s k ∈ rs → k ∈ sIdx rs
  | [], h => by cases h
  | .s i :: rs, h => by
    rcases List.mem_cons.mp h with h | h
    · cases h; exact List.mem_cons_self
    · exact List.mem_cons_of_mem _ (mem_sIdx h)
  | .r _ :: rs, h => by
    rcases List.mem_cons.mp h with h | h
    · cases h
    · exact mem_sIdx (rs := rs) h
  | .b _ :: rs, h => by
    rcases List.mem_cons.mp h with h | h
    · cases h
    · exact mem_sIdx (rs := rs) h
theorem wb_in {k : Nat} {l : Bool} {z : Bx} : ∀ {rs : List Od} {ss : List Sl} {e : En} {j : Nat} {s : Sl}, (sIdx rs).Nodup → rs[j]? = some (.s k) → ss[j]? = some s → e[k]? = some (.ow l z) → (wb rs ss e)[k]? = some (bk l s)
  | [], _, _, _, _, _, h, _, _ => by simp at h
  | _ :: _, [], _, _, _, _, _, h, _ => by simp at h
  | .s i :: rs, s' :: ss, e, 0, s, nd, h1, h2, h3 => by
    simp at h1 h2
    subst h1 h2
    unfold wb
    rw [h3]
    have hk : i < e.length := (List.getElem?_eq_some_iff.mp h3).1
    rw [wb_out]
    · exact List.getElem?_set_self hk
    · intro _ _ _ m
      exact (List.nodup_cons.mp nd).1 (mem_sIdx m)
  | .r _ :: rs, s' :: ss, e, 0, s, nd, h1, h2, h3 => by simp at h1
  | .b _ :: rs, s' :: ss, e, 0, s, nd, h1, h2, h3 => by simp at h1
  | .r _ :: rs, s' :: ss, e, j + 1, s, nd, h1, h2, h3 => wb_in (rs := rs) (j := j) nd (by simpa using h1) (by simpa using h2) h3
  | .b _ :: rs, s' :: ss, e, j + 1, s, nd, h1, h2, h3 => wb_in (rs := rs) (j := j) nd (by simpa using h1) (by simpa using h2) h3
  | .s i :: rs, s' :: ss, e, j + 1, s, nd, h1, h2, h3 => by
    unfold wb
    have hm : Od.s k ∈ rs := List.mem_of_getElem? (i := j) (by simpa using h1)
    have hik : i ≠ k := fun q => by subst q; exact (List.nodup_cons.mp nd).1 (mem_sIdx hm)
    refine wb_in (z := z) (rs := rs) (ss := ss) (j := j) (List.nodup_cons.mp nd).2 (by simpa using h1) (by simpa using h2) ?_
    split
    · rw [List.getElem?_set_ne hik]; exact h3
    · exact h3
/-- a call: what is handed over, what comes back -/
def eCallR (m : FSem) (rs : List Od) (e1 : En) : Out Od := match toSls e1 rs with
  | some ss => if (sIdx rs).Nodup then (match m ss with
    | .ok (.s _) _ => .bad
    | .ok r ss' => .ok r (wb rs ss' e1)
    | .exc c t ss' => .exc c t (wb rs ss' e1)
    | .bad => .bad) else .bad
  | none => .bad
def eCall (n : Nat) (m : FSem) (ma : SemA) : SemE := fun e => (ma e).bind fun rs e1 => if rs.length = n then eCallR m rs e1 else .bad
theorem toSls_get {e : En} : ∀ {rs : List Od} {ss : List Sl}, toSls e rs = some ss → rs.length = ss.length ∧ ∀ (j : Nat) (s : Sl), ss[j]? = some s → ∃ r, rs[j]? = some r ∧ toSl e r = some s
  | [], _, h => by cases h; exact ⟨rfl, fun j s h => by simp at h⟩
  | r :: rs, _, h => by
    unfold toSls at h
    cases q : toSl e r with
    | none => rw [q] at h; cases h
    | some s =>
      cases q2 : toSls e rs with
      | none => rw [q, q2] at h; cases h
      | some ss =>
        rw [q, q2] at h; cases h
        obtain ⟨l, g⟩ := toSls_get q2
        refine ⟨by simp [l], fun j s' hj => ?_⟩
        cases j with
        | zero => simp at hj; subst hj; exact ⟨r, rfl, q⟩
        | succ j => simpa using g j s' (by simpa using hj)
theorem ods_len {K : PySem.W.Frag} {σ : Sg} {Hs F H : Hp} : ∀ {rs : List Od} {xs : List V}, OdsR K σ Hs F H rs xs → rs.length = xs.length
  | _, _, .nil => rfl
  | _, _, .cons a b _ => by simp [ods_len b]
theorem ods_get {K : PySem.W.Frag} {σ : Sg} {Hs F H : Hp} : ∀ {rs : List Od} {xs : List V} {j : Nat} {r : Od}, OdsR K σ Hs F H rs xs → rs[j]? = some r → ∃ x, xs[j]? = some x ∧ OdR K σ Hs F H x r
  | _, _, _, _, .nil, h => by simp at h
  | _, _, 0, _, .cons a b _, h => by simp at h; subst h; exact ⟨_, rfl, a⟩
  | _, _, j + 1, _, .cons a b _, h => by simpa using ods_get b (by simpa using h)
theorem ods_ne {K : PySem.W.Frag} {σ : Sg} {Hs F H : Hp} {p : Addr} {z z' : Bx} : ∀ {rs : List Od} {xs : List V} {i j : Nat}, OdsR K σ Hs F H rs xs → rs[i]? = some (.b z) → rs[j]? = some (.b z') → xs[i]? = some (.ref p) → xs[j]? = some (.ref p) → i = j
  | _, _, _, _, .nil, h, _, _, _ => by simp at h
  | _, _, 0, 0, .cons a b n, _, _, _, _ => rfl
  | _, _, 0, j + 1, .cons a b n, h1, h2, h3, h4 => by
    simp at h1 h3
    exact absurd (by simpa using h4) (n z p h1 h3 j z' (by simpa using h2))
  | _, _, i + 1, 0, .cons a b n, h1, h2, h3, h4 => by
    simp at h2 h4
    exact absurd (by simpa using h3) (n z' p h2 h4 i z (by simpa using h1))
  | _, _, i + 1, j + 1, .cons a b n, h1, h2, h3, h4 => by rw [ods_ne (i := i) (j := j) b (by simpa using h1) (by simpa using h2) (by simpa using h3) (by simpa using h4)]
theorem s_inj {k : Nat} : ∀ {rs : List Od} {i j : Nat}, (sIdx rs).Nodup → rs[i]? = some (.s k) → rs[j]? = some (.s k) → i = j
  | [], _, _, _, h, _ => by simp at h
  | _ :: _, 0, 0, _, _, _ => rfl
  | .s m :: rs, 0, j + 1, nd, h1, h2 => by
    simp at h1; subst h1
    exact absurd (mem_sIdx (List.mem_of_getElem? (i := j) (by simpa using h2))) (List.nodup_cons.mp nd).1
  | .s m :: rs, i + 1, 0, nd, h1, h2 => by
    simp at h2; subst h2
    exact absurd (mem_sIdx (List.mem_of_getElem? (i := i) (by simpa using h1))) (List.nodup_cons.mp nd).1
  | .r _ :: rs, 0, j + 1, nd, h1, h2 => by simp at h1
  | .b _ :: rs, 0, j + 1, nd, h1, h2 => by simp at h1
  | .r _ :: rs, i + 1, 0, nd, h1, h2 => by simp at h2
  | .b _ :: rs, i + 1, 0, nd, h1, h2 => by simp at h2
  | .s m :: rs, i + 1, j + 1, nd, h1, h2 => by rw [s_inj (rs := rs) (i := i) (j := j) (List.nodup_cons.mp nd).2 (by simpa using h1) (by simpa using h2)]
  | .r _ :: rs, i + 1, j + 1, nd, h1, h2 => by rw [s_inj (rs := rs) (i := i) (j := j) nd (by simpa using h1) (by simpa using h2)]
  | .b _ :: rs, i + 1, j + 1, nd, h1, h2 => by rw [s_inj (rs := rs) (i := i) (j := j) nd (by simpa using h1) (by simpa using h2)]
theorem map_some_get {xs : List V} {j : Nat} {o : Option V} (h : (xs.map some)[j]? = some o) : ∃ x, o = some x ∧ xs[j]? = some x := by
  rw [List.getElem?_map] at h
  cases q : xs[j]? with
  | none => rw [q] at h; cases h
  | some x => rw [q] at h; cases h; exact ⟨x, rfl, rfl⟩
/-- what is handed over, as the callee sees it -/
theorem args_rel {K : PySem.W.Frag} {σ : Sg} {e0 e : En} {F0 H0 F H : Hp} {rs : List Od} {xs : List V} {ss : List Sl} (R0 : Rel K e0 σ F0 H0) (R : Rel K e σ F H) (S : Step e0 e σ F0 H0 F H) (O : OdsR K σ H0 F H rs xs) (hs : toSls e rs = some ss) (nd : (sIdx rs).Nodup) :
    Rel K ss (xs.map some) F H ∧ ∀ p, Own ss (xs.map some) p → Own e σ p ∨ H0 p = none := by
  obtain ⟨hl, g⟩ := toSls_get hs
  have cases_ow : ∀ (j : Nat) (l : Bool) (z : Bx) (p : Addr), ss[j]? = some (.ow l z) → (xs.map some)[j]? = some (some (.ref p)) → xs[j]? = some (.ref p) ∧ ((∃ z', rs[j]? = some (.b z') ∧ H0 p = none) ∨ ∃ i l' z', rs[j]? = some (.s i) ∧ e[i]? = some (.ow l' z') ∧ σ[i]? = some (some (.ref p))) := by
    intro j l z p h1 h2
    obtain ⟨r, hr, ht⟩ := g j _ h1
    obtain ⟨x, ex, hx⟩ := map_some_get h2
    cases ex
    refine ⟨hx, ?_⟩
    obtain ⟨x', hx', o⟩ := ods_get O hr
    rw [hx] at hx'; cases hx'
    cases r with
    | r t => cases ht
    | b z' =>
      obtain ⟨p', ep, hn, _⟩ := o
      cases ep
      exact .inl ⟨z', hr, hn⟩
    | s i =>
      simp only [toSl] at ht
      cases q : e[i]? with
      | none => rw [q] at ht; cases ht
      | some y =>
        rw [q] at ht
        cases y with
        | un => cases ht
        | v _ => cases ht
        | fz _ => cases ht
        | ow l' z' => exact .inr ⟨i, l', z', hr, q, o⟩
  refine ⟨⟨R.sub, by rw [List.length_map, ← hl, ods_len O], fun j s o h1 h2 => ?_, fun i j l b l' b' p h1 h2 h3 h4 => ?_⟩, fun p ⟨j, l, z, h1, h2⟩ => ?_⟩
  · obtain ⟨r, hr, ht⟩ := g j _ h1
    obtain ⟨x, ex, hx⟩ := map_some_get h2
    cases ex
    obtain ⟨x', hx', od⟩ := ods_get O hr
    rw [hx] at hx'; cases hx'
    cases r with
    | r t => cases ht; exact ⟨x, rfl, od⟩
    | b z =>
      cases ht
      obtain ⟨p, ep, _, hf, bx⟩ := od
      cases ep
      exact ⟨p, rfl, hf, bx⟩
    | s i =>
      simp only [toSl] at ht
      have od : σ[i]? = some (some x) := od
      cases q : e[i]? with
      | none => rw [q] at ht; cases ht
      | some y =>
        rw [q] at ht
        have z := R.at_ i y _ q od
        cases y with
        | un => cases ht
        | v _ => cases ht; exact z
        | fz _ => cases ht; exact z
        | ow l' z' => cases ht; exact z
  · obtain ⟨a1, c1⟩ := cases_ow i l b p h1 h3
    obtain ⟨a2, c2⟩ := cases_ow j l' b' p h2 h4
    rcases c1 with ⟨z1, r1, n1⟩ | ⟨i1, l1, z1, r1, e1, s1⟩
    · rcases c2 with ⟨z2, r2, n2⟩ | ⟨i2, l2, z2, r2, e2, s2⟩
      · exact ods_ne O r1 r2 a1 a2
      · exact absurd ⟨i2, l2, z2, e2, s2⟩ (fresh_not_own R0 S n1)
    · rcases c2 with ⟨z2, r2, n2⟩ | ⟨i2, l2, z2, r2, e2, s2⟩
      · exact absurd ⟨i1, l1, z1, e1, s1⟩ (fresh_not_own R0 S n2)
      · have q := R.ne i1 i2 _ _ _ _ p e1 e2 s1 s2
        subst q
        exact s_inj nd r1 r2
  · obtain ⟨a1, c1⟩ := cases_ow j l z p h1 h2
    rcases c1 with ⟨z1, r1, n1⟩ | ⟨i1, l1, z1, r1, e1, s1⟩
    · exact .inr n1
    · exact .inl ⟨i1, l1, z1, e1, s1⟩
/-- behind a call -/
theorem back_rel {K : PySem.W.Frag} {σ : Sg} {e0 e : En} {F0 H0 F H F' H' : Hp} {rs : List Od} {xs : List V} {ss ss' : List Sl} (R0 : Rel K e0 σ F0 H0) (R : Rel K e σ F H) (S : Step e0 e σ F0 H0 F H) (O : OdsR K σ H0 F H rs xs) (hs : toSls e rs = some ss) (nd : (sIdx rs).Nodup)
    (R' : Rel K ss' (xs.map some) F' H') (S' : Step ss ss' (xs.map some) F H F' H') : Rel K (wb rs ss' e) σ F' H' ∧ Step e0 (wb rs ss' e) σ F0 H0 F' H' := by
  obtain ⟨RA, ow⟩ := args_rel R0 R S O hs nd
  obtain ⟨hl, g⟩ := toSls_get hs
  have hl' : ss'.length = rs.length := by rw [R'.len, List.length_map, ods_len O]
  -- each name: as it was, or as the callee left it
  have at2 : ∀ (k : Nat) (s : Sl), (wb rs ss' e)[k]? = some s → (e[k]? = some s ∧ ∀ l z, s = Sl.ow l z → Od.s k ∉ rs) ∨ ∃ (j : Nat) (l : Bool) (z : Bx) (s' : Sl) (x : V), rs[j]? = some (Od.s k) ∧ ss'[j]? = some s' ∧ e[k]? = some (Sl.ow l z) ∧ s = bk l s' ∧ ss[j]? = some (Sl.ow true z) ∧ (∃ z', s' = Sl.ow true z' ∨ s' = Sl.fz z') ∧ xs[j]? = some x ∧ σ[k]? = some (some x) := by
    intro k s h
    by_cases c : ∃ l z, e[k]? = some (.ow l z) ∧ Od.s k ∈ rs
    · obtain ⟨l, z, c1, c2⟩ := c
      obtain ⟨j, hj⟩ := List.getElem?_of_mem c2
      have hjl : j < ss'.length := by rw [hl']; exact (List.getElem?_eq_some_iff.mp hj).1
      have hj2 : ss'[j]? = some ss'[j] := List.getElem?_eq_getElem hjl
      rw [wb_in nd hj hj2 c1] at h
      cases h
      have hss : ss[j]? = some (.ow true z) := by
        have hjl2 : j < ss.length := by rw [← hl]; exact (List.getElem?_eq_some_iff.mp hj).1
        obtain ⟨r, hr, ht⟩ := g j _ (List.getElem?_eq_getElem hjl2)
        rw [hj] at hr; cases hr
        simp only [toSl, c1] at ht
        cases ht'' : ss[j]
        all_goals rw [ht''] at ht
        all_goals cases ht
        rw [List.getElem?_eq_getElem hjl2, ht'']
      obtain ⟨b', hb⟩ := S'.lt j ⟨z, .inl hss⟩
      obtain ⟨x, hx, od⟩ := ods_get O hj
      refine .inr ⟨j, l, z, _, x, hj, hj2, c1, rfl, hss, ⟨b', ?_⟩, hx, od⟩
      rw [hj2] at hb
      rcases hb with hb | hb
      · exact .inl (Option.some.inj hb)
      · exact .inr (Option.some.inj hb)
    · rw [wb_out rs ss' e fun l z q m => c ⟨l, z, q, m⟩] at h
      exact .inl ⟨h, fun l z q m => c ⟨l, z, by rw [h, q], m⟩⟩
  have own2 : ∀ (k : Nat) (l : Bool) (b : Bx), (wb rs ss' e)[k]? = some (Sl.ow l b) → ∃ l' b', e[k]? = some (Sl.ow l' b') := fun k l b h => by
    rcases at2 k _ h with ⟨h, _⟩ | ⟨j, l1, z, s', x, _, _, h, _⟩
    · exact ⟨l, b, h⟩
    · exact ⟨l1, z, h⟩
  have own : ∀ p, Own (wb rs ss' e) σ p → Own e σ p := fun p ⟨k, l, b, h1, h2⟩ => by
    obtain ⟨l', b', h⟩ := own2 k l b h1
    exact ⟨k, l', b', h, h2⟩
  refine ⟨⟨R'.sub, by rw [wb_len]; exact R.len, fun k s o h1 h2 => ?_, fun i j l b l' b' p h1 h2 h3 h4 => ?_⟩, ⟨fun a o h => S'.ff _ _ (S.ff _ _ h), fun a o h n => ?_, fun a o h => ?_, fun p h => S.own _ (own p h), fun i hi => ?_, fun i l b h => ?_⟩⟩
  · rcases at2 k s h1 with ⟨h, no⟩ | ⟨j, l, z, s', x, hr, hs', he, es, hss, lent, hx, hσ⟩
    · have q := R.at_ k s o h h2
      cases s with
      | un => trivial
      | v t => obtain ⟨y, ey, d⟩ := q; exact ⟨y, ey, dp_mono S'.ff _ _ d⟩
      | fz b => obtain ⟨y, ey, d⟩ := q; exact ⟨y, ey, dp_mono S'.ff _ _ d⟩
      | ow l b =>
        obtain ⟨p, ep, hf, bx⟩ := q
        subst ep
        obtain ⟨u, hu⟩ := bx_some bx
        have na : ¬ Own ss (xs.map some) p := fun ⟨j, l1, z1, g1, g2⟩ => by
          obtain ⟨r, hr, ht⟩ := g j _ g1
          obtain ⟨x, ex, hx⟩ := map_some_get g2
          cases ex
          obtain ⟨x', hx', od⟩ := ods_get O hr
          rw [hx] at hx'; cases hx'
          cases r with
          | r t => cases ht
          | b z' =>
            obtain ⟨p', ep, hn, _⟩ := od
            cases ep
            exact fresh_not_own R0 S hn ⟨k, l, b, h, h2⟩
          | s i =>
            simp only [toSl] at ht
            cases q : e[i]? with
            | none => rw [q] at ht; cases ht
            | some y =>
              rw [q] at ht
              cases y with
              | un => cases ht
              | v _ => cases ht
              | fz _ => cases ht
              | ow l' z' =>
                have ik := R.ne i k _ _ _ _ p q h od h2
                subst ik
                exact no l b rfl (List.mem_of_getElem? hr)
        obtain ⟨k1, k2⟩ := S'.keep p u hu na
        exact ⟨p, rfl, k2 hf, bx_keep bx S'.ff fun o' h' => by rw [hu] at h'; cases h'; exact k1⟩
    · rw [hσ] at h2; cases h2
      have q := R'.at_ j s' (some x) hs' (by rw [List.getElem?_map, hx]; rfl)
      subst es
      obtain ⟨z', lent⟩ := lent
      rcases lent with e' | e'
      · subst e'; exact q
      · subst e'
        cases l with
        | true => exact q
        | false => exact q
  · obtain ⟨l1, b1, q1⟩ := own2 i _ _ h1
    obtain ⟨l2, b2, q2⟩ := own2 j _ _ h2
    exact R.ne i j _ _ _ _ p q1 q2 h3 h4
  · obtain ⟨k1, k2⟩ := S.keep a o h n
    have na : ¬ Own ss (xs.map some) a := fun z => by
      rcases ow a z with z | z
      · exact n (S.own _ z)
      · rw [h] at z; cases z
    obtain ⟨k3, k4⟩ := S'.keep a o k1 na
    exact ⟨k3, fun z => k4 (k2 z)⟩
  · obtain ⟨o1, h1⟩ := S.dom a o h
    exact S'.dom a o1 h1
  · obtain ⟨b, hb⟩ := S.lt i hi
    rcases hb with hb | hb
    · by_cases m : Od.s i ∈ rs
      · obtain ⟨j, hj⟩ := List.getElem?_of_mem m
        have hjl : j < ss'.length := by rw [hl']; exact (List.getElem?_eq_some_iff.mp hj).1
        have w := wb_in nd hj (List.getElem?_eq_getElem hjl) hb
        rcases at2 i _ w with ⟨h, no⟩ | ⟨j', l, z, s', x, hr, hs', he, es, hss, ⟨z', lent⟩, hx, hσ⟩
        · exact ⟨b, .inl (by rw [wb_in nd hj (List.getElem?_eq_getElem hjl) hb] at w ⊢; rw [← h, hb])⟩
        · rw [hb] at he; cases he
          rcases lent with e' | e'
          · subst e'; exact ⟨z', .inl (by rw [w, es]; rfl)⟩
          · subst e'; exact ⟨z', .inr (by rw [w, es]; rfl)⟩
      · exact ⟨b, .inl (by rw [wb_out rs ss' e fun _ _ _ m' => m m']; exact hb)⟩
    · exact ⟨b, .inr (by rw [wb_out rs ss' e fun l z q _ => by rw [hb] at q; cases q]; exact hb)⟩
  · rcases at2 i _ h with ⟨q, _⟩ | ⟨j, l1, z, s', x, _, _, q, es, _, ⟨z', lent⟩, _⟩
    · exact S.sk i l b q
    · rcases lent with e' | e'
      · subst e'; cases es; exact S.sk i l z q
      · subst e'
        cases l1 with
        | true => cases es
        | false => cases es
theorem call_read {n : Nat} {m : FSem} {ma : SemA} {K : PySem.W.Frag} {σ : Sg} {H : Hp} {Q : VK} (h : tE K W (eCall n m ma) σ H Q) : tA K W ma σ H fun vs H1 => spF K n m vs H1 Q (WE W σ) := by
  obtain ⟨e, F, R, h⟩ := h
  refine tX_imp (tX_bind (rel := fun σ Hs F H xs rs => OdsR K σ Hs F H rs xs) R .refl h) fun xs H1 ⟨rs, e1, F1, R1, S1, O1, h1⟩ => ?_
  by_cases hl : rs.length = n
  · rw [if_pos hl] at h1
    refine ⟨by rw [← ods_len O1]; exact hl, ?_⟩
    unfold eCallR at h1
    cases q : toSls e1 rs with
    | none => rw [q] at h1; exact h1.elim
    | some ss =>
      simp only [q] at h1
      by_cases nd : (sIdx rs).Nodup
      · rw [if_pos nd] at h1
        obtain ⟨RA, _⟩ := args_rel R R1 S1 O1 q nd
        refine ⟨ss, F1, RA, ?_⟩
        cases w : m ss with
        | bad => rw [w] at h1; exact h1
        | exc c t ss' =>
          rw [w] at h1
          exact fun F' H' cls d R' S' x => let ⟨a, b⟩ := back_rel R R1 S1 O1 q nd R' S'; h1 F' H' cls d a b x
        | ok r ss' =>
          rw [w] at h1
          intro x F' H' R' S' o
          obtain ⟨a, b⟩ := back_rel R R1 S1 O1 q nd R' S'
          cases r with
          | s i => exact h1.elim
          | r t => exact h1 x F' H' a b o
          | b z => obtain ⟨p, ep, hn, hf, bx⟩ := o; exact h1 x F' H' a b ⟨p, ep, step_none S1 hn, hf, bx⟩
      · rw [if_neg nd] at h1; exact h1.elim
  · rw [if_neg hl] at h1; exact h1.elim
theorem qcall {CX : CXT} {k : Nat} {f : Addr} {fd : FuncData} {ps : List Str} {m : FSem} {ma : SemA} {x : Str} {p : Pos} {es : List Expr} {n : Nat} (Fn : FnOk X.prog X.w X.K X.mg X.base CX k f fd ps (spF X.K n m)) (hr : Room k X.A) (hg : Gl X x) (hm : X.mg x = some (.ref f)) (hk : PySem.W.keepIn X.K (.ref f) = true)
    (hb : Binds X.K fd ps []) (hx : ∀ σ, PassesAt CX X σ (WE W σ)) (ha : QA X W (a :: es) ma) (hdb : (x == ("__debug__" : Str)) = false := by decide) (he : starEach (a :: es) X.env = (false, eval a X.env) :: starEach es X.env := by rfl)
    (hpl : (backTo pos (starEach es X.env)).any (·.1) = false := by rfl) : QE X W (.Call (.Name x p) (a :: es) [] pos) (eCall n m ma) :=
  pe_mono (pe_callS (E := fun σ => WE W σ) Fn hr hg hm hk hb hx ha hdb he hpl) fun σ H Q h => call_read h
end
end Ev

set_option Elab.async false
set_option linter.all false
set_option maxRecDepth 100000
namespace Ev
open PySem PySem.Spec PyProof.Rows L2
/-- the entry of the def whose body runs -/
structure Bd where
  e : En
  σ : Sg
  F : Hp
  H : Hp
structure BOk (B : Bd) (e : En) (σ : Sg) (F H : Hp) : Prop where
  ff : ∀ a o, B.F a = some o → F a = some o
  keep : ∀ a o, B.H a = some o → ¬ Own B.e B.σ a → H a = some o ∧ (B.F a = none → F a = none)
  dom : ∀ a o, B.H a = some o → ∃ o', H a = some o'
  fresh : ∀ (i : Nat) (b : Bx) (p : Addr), e[i]? = some (Sl.ow false b) → σ[i]? = some (some (V.ref p)) → B.H p = none
  own : ∀ (i : Nat) (b : Bx), e[i]? = some (Sl.ow true b) → σ[i]? = B.σ[i]? ∧ ∃ b', B.e[i]? = some (Sl.ow true b')
  lent : ∀ (i : Nat) (b : Bx), B.e[i]? = some (Sl.ow true b) → Lent e i ∧ σ[i]? = B.σ[i]?
section
variable {K : PySem.W.Frag} {W : WX} {B : Bd} {e e1 e2 : En} {σ σ1 : Sg} {F H F1 H1 F2 H2 : Hp}
theorem BOk.own' (k : BOk B e σ F H) {p : Addr} (h : Own e σ p) : Own B.e B.σ p ∨ B.H p = none := by
  obtain ⟨i, l, b, h1, h2⟩ := h
  cases l with
  | true => obtain ⟨q, b', q2⟩ := k.own i b h1; exact .inl ⟨i, true, b', q2, by rw [← q]; exact h2⟩
  | false => exact .inr (k.fresh i b p h1 h2)
theorem BOk.step (k : BOk B e σ F H) (S : Step e e1 σ F H F1 H1) : BOk B e1 σ F1 H1 where
  ff := fun a o h => S.ff _ _ (k.ff _ _ h)
  keep := fun a o h n => by
    obtain ⟨h1, h2⟩ := k.keep a o h n
    obtain ⟨h3, h4⟩ := S.keep a o h1 fun z => by
      rcases k.own' z with z | z
      · exact n z
      · rw [h] at z; cases z
    exact ⟨h3, fun z => h4 (h2 z)⟩
  dom := fun a o h => by
    obtain ⟨o1, h1⟩ := k.dom a o h
    exact S.dom a o1 h1
  fresh := fun i b p h1 h2 => by
    obtain ⟨b', q⟩ := S.sk i _ _ h1
    exact k.fresh i b' p q h2
  own := fun i b h1 => by
    obtain ⟨b', q⟩ := S.sk i _ _ h1
    exact k.own i b' q
  lent := fun i b h => ⟨S.lt i (k.lent i b h).1, (k.lent i b h).2⟩

/-! ### statements -/
inductive Fl where
  | nx
  | rt (r : Od)
  | bk
  | ct
abbrev SemS := En → Out Fl
def OutS (K : PySem.W.Frag) (W : WX) (B : Bd) (o : Out Fl) (D : Ends) : Prop := match o with
  | .ok .nx e' => ∀ σ' F' H', Rel K e' σ' F' H' → BOk B e' σ' F' H' → D.nx σ' H'
  | .ok .bk e' => ∀ σ' F' H', Rel K e' σ' F' H' → BOk B e' σ' F' H' → D.bk σ' H'
  | .ok .ct e' => ∀ σ' F' H', Rel K e' σ' F' H' → BOk B e' σ' F' H' → D.ct σ' H'
  | .ok (.rt r) e' => ∀ x σ' F' H', Rel K e' σ' F' H' → BOk B e' σ' F' H' → OdR K [] B.H F' H' x r → D.rt x H'
  | .exc c t e' => ∀ σ' F' H' cls d, Rel K e' σ' F' H' → BOk B e' σ' F' H' → ExR K F' H' c t cls d → W cls d σ' H'
  | .bad => False
def tS (K : PySem.W.Frag) (W : WX) (B : Bd) (m : SemS) : TS := fun D σ H => ∃ e F, Rel K e σ F H ∧ BOk B e σ F H ∧ OutS K W B (m e) D
theorem tS_bind {α β : Type} {rel : Sg → Hp → Hp → Hp → β → α → Prop} {m : En → Out α} {f : α → En → Out Fl} {D : Ends} (R : Rel K e σ F H) (k : BOk B e σ F H) (h : OutS K W B ((m e).bind f) D) :
    tX K W rel m σ H (fun x H1 => ∃ r e1 F1, Rel K e1 σ F1 H1 ∧ Step e e1 σ F H F1 H1 ∧ BOk B e1 σ F1 H1 ∧ rel σ H F1 H1 x r ∧ OutS K W B (f r e1) D) := by
  refine ⟨e, F, R, ?_⟩
  cases q : m e with
  | ok r e' => rw [q] at h; exact fun x F' H' R' S' O => ⟨r, e', F', R', S', k.step S', O, h⟩
  | exc c t e' => rw [q] at h; exact fun F' H' cls d R' S' X => h σ F' H' cls d R' (k.step S') X
  | bad => rw [q] at h; exact h
abbrev QS (X : Cx) (W : WX) (B : Bd) (st : Stmt) (m : SemS) : Prop := PS X st (tS X.K W B m)
abbrev QSs (X : Cx) (W : WX) (B : Bd) (st : List Stmt) (m : SemS) : Prop := PSs X st (tS X.K W B m)
def isLent (e : En) (i : Nat) : Bool := match e[i]? with
  | some (.ow true _) => true
  | some (.fz _) => true
  | _ => false
theorem isLent_no {i : Nat} (h : isLent e i = false) : ¬ Lent e i := fun ⟨b, q⟩ => by
  rcases q with q | q <;> simp [isLent, q] at h
theorem set_v {i : Nat} {x : V} {t : T} (R : Rel K e σ F H) (k : BOk B e σ F H) (d : Dp K F x t) (n : ¬ Lent e i) : Rel K (e.set i (.v t)) (σ.set i (some x)) F H ∧ BOk B (e.set i (.v t)) (σ.set i (some x)) F H := by
  have get : ∀ (j : Nat) (s : Sl), (e.set i (.v t))[j]? = some s → (j = i ∧ s = .v t ∧ i < e.length) ∨ (i ≠ j ∧ e[j]? = some s) := fun j s h => by
    by_cases q : i = j
    · subst q
      have hi : i < e.length := by have := (List.getElem?_eq_some_iff.mp h).1; simpa using this
      rw [List.getElem?_set_self hi] at h; cases h; exact .inl ⟨rfl, rfl, hi⟩
    · rw [List.getElem?_set_ne q] at h; exact .inr ⟨q, h⟩
  have sg : ∀ (j : Nat), i ≠ j → (σ.set i (some x))[j]? = σ[j]? := fun j q => List.getElem?_set_ne q
  refine ⟨⟨R.sub, by simp [R.len], fun j s o h1 h2 => ?_, fun j j' l b l' b' p h1 h2 h3 h4 => ?_⟩, ⟨k.ff, k.keep, k.dom, fun j b p h1 h2 => ?_, fun j b h1 => ?_, fun j b h => ?_⟩⟩
  · rcases get j s h1 with ⟨rfl, rfl, hi⟩ | ⟨q, h⟩
    · rw [List.getElem?_set_self (by rw [← R.len]; exact hi)] at h2; cases h2; exact ⟨x, rfl, d⟩
    · rw [sg j q] at h2; exact R.at_ j s o h h2
  · rcases get j _ h1 with ⟨_, z, _⟩ | ⟨q, g1⟩
    · cases z
    · rcases get j' _ h2 with ⟨_, z, _⟩ | ⟨q', g2⟩
      · cases z
      · rw [sg j q] at h3; rw [sg j' q'] at h4; exact R.ne j j' l b l' b' p g1 g2 h3 h4
  · rcases get j _ h1 with ⟨_, z, _⟩ | ⟨q, g1⟩
    · cases z
    · rw [sg j q] at h2; exact k.fresh j b p g1 h2
  · rcases get j _ h1 with ⟨_, z, _⟩ | ⟨q, g1⟩
    · cases z
    · rw [sg j q]; exact k.own j b g1
  · obtain ⟨l, q⟩ := k.lent j b h
    have ne : i ≠ j := fun z => n (by rw [z]; exact l)
    refine ⟨?_, by rw [sg j ne]; exact q⟩
    obtain ⟨b', l⟩ := l
    exact ⟨b', by rw [List.getElem?_set_ne ne]; exact l⟩
theorem set_b {i : Nat} {p : Addr} {z : Bx} (R : Rel K e σ F H) (k : BOk B e σ F H) (hf : F p = none) (bx : BxAt K F H p z) (hB : B.H p = none) (no : ¬ Own e σ p) (n : ¬ Lent e i) : Rel K (e.set i (.ow false z)) (σ.set i (some (.ref p))) F H ∧ BOk B (e.set i (.ow false z)) (σ.set i (some (.ref p))) F H := by
  have get : ∀ (j : Nat) (s : Sl), (e.set i (.ow false z))[j]? = some s → (j = i ∧ s = .ow false z ∧ i < e.length) ∨ (i ≠ j ∧ e[j]? = some s) := fun j s h => by
    by_cases q : i = j
    · subst q
      have hi : i < e.length := by have := (List.getElem?_eq_some_iff.mp h).1; simpa using this
      rw [List.getElem?_set_self hi] at h; cases h; exact .inl ⟨rfl, rfl, hi⟩
    · rw [List.getElem?_set_ne q] at h; exact .inr ⟨q, h⟩
  have sg : ∀ (j : Nat), i ≠ j → (σ.set i (some (V.ref p)))[j]? = σ[j]? := fun j q => List.getElem?_set_ne q
  have si : i < e.length → (σ.set i (some (V.ref p)))[i]? = some (some (V.ref p)) := fun h => List.getElem?_set_self (by rw [← R.len]; exact h)
  refine ⟨⟨R.sub, by simp [R.len], fun j s o h1 h2 => ?_, fun j j' l b l' b' p' h1 h2 h3 h4 => ?_⟩, ⟨k.ff, k.keep, k.dom, fun j b p' h1 h2 => ?_, fun j b h1 => ?_, fun j b h => ?_⟩⟩
  · rcases get j s h1 with ⟨rfl, rfl, hi⟩ | ⟨q, h⟩
    · rw [si hi] at h2; cases h2; exact ⟨p, rfl, hf, bx⟩
    · rw [sg j q] at h2; exact R.at_ j s o h h2
  · rcases get j _ h1 with ⟨e1, _, hi⟩ | ⟨q, g1⟩
    · rcases get j' _ h2 with ⟨e2, _, _⟩ | ⟨q', g2⟩
      · rw [e1, e2]
      · subst e1
        rw [si hi] at h3; cases h3
        rw [sg j' q'] at h4
        exact absurd ⟨j', l', b', g2, h4⟩ no
    · rcases get j' _ h2 with ⟨e2, _, hi⟩ | ⟨q', g2⟩
      · subst e2
        rw [si hi] at h4; cases h4
        rw [sg j q] at h3
        exact absurd ⟨j, l, b, g1, h3⟩ no
      · rw [sg j q] at h3; rw [sg j' q'] at h4; exact R.ne j j' l b l' b' p' g1 g2 h3 h4
  · rcases get j _ h1 with ⟨e1, _, hi⟩ | ⟨q, g1⟩
    · subst e1; rw [si hi] at h2; cases h2; exact hB
    · rw [sg j q] at h2; exact k.fresh j b p' g1 h2
  · rcases get j _ h1 with ⟨_, z, _⟩ | ⟨q, g1⟩
    · cases z
    · rw [sg j q]; exact k.own j b g1
  · obtain ⟨l, q⟩ := k.lent j b h
    have ne : i ≠ j := fun z => n (by rw [z]; exact l)
    refine ⟨?_, by rw [sg j ne]; exact q⟩
    obtain ⟨b', l⟩ := l
    exact ⟨b', by rw [List.getElem?_set_ne ne]; exact l⟩
/-- name = value -/
def setO (i : Nat) (r : Od) (e : En) : Out Fl := if isLent e i then .bad else match r with
  | .b z => .ok .nx (e.set i (.ow false z))
  | r => match esc r e with
    | some (t, e') => .ok .nx (e'.set i (.v t))
    | none => .bad
theorem esc_lent {r : Od} {t : T} {i : Nat} (h : esc r e = some (t, e1)) (n : ¬ Lent e i) : ¬ Lent e1 i := by
  cases r with
  | r u => cases h; exact n
  | b z =>
    simp only [esc] at h
    split at h
    · cases h; exact n
    · cases h
  | s j =>
    simp only [esc] at h
    cases q : e[j]? with
    | none => rw [q] at h; cases h
    | some s =>
      rw [q] at h
      cases s with
      | un => cases h
      | v u => cases h; exact n
      | fz u => cases h; exact n
      | ow l b =>
        simp only at h
        split at h
        · cases h
          rintro ⟨b', w⟩
          by_cases ij : j = i
          · subst ij
            have hj : j < e.length := (List.getElem?_eq_some_iff.mp q).1
            rw [List.getElem?_set_self hj] at w
            cases l with
            | true => exact n ⟨b, .inl q⟩
            | false => rcases w with w | w <;> cases w
          · rw [List.getElem?_set_ne ij] at w
            exact n ⟨b', w⟩
        · cases h
theorem set_ok {i : Nat} {r : Od} {x : V} {D : Ends} {e0 : En} {F0 H0 : Hp} (R0 : Rel K e0 σ F0 H0) (k0 : BOk B e0 σ F0 H0) (R : Rel K e σ F H) (S : Step e0 e σ F0 H0 F H) (O : OdR K σ H0 F H x r) (h : OutS K W B (setO i r e) D) : D.nx (σ.set i (some x)) H := by
  unfold setO at h
  cases l : isLent e i with
  | true => rw [l] at h; exact h.elim
  | false =>
    rw [l, if_neg (by decide)] at h
    have n := isLent_no l
    have tree : ∀ t e', esc r e = some (t, e') → OutS K W B (.ok .nx (e'.set i (.v t))) D → D.nx (σ.set i (some x)) H := fun t e' q h => by
      obtain ⟨F', R', S', d, _⟩ := esc_ok R0 R S O q
      obtain ⟨a, b⟩ := set_v R' (k0.step S') d (esc_lent q n)
      exact h _ _ _ a b
    cases r with
    | b z =>
      obtain ⟨p, rfl, hn, hf, bx⟩ := O
      have hB : B.H p = none := by
        cases q : B.H p with
        | none => rfl
        | some o => obtain ⟨o', e'⟩ := k0.dom _ _ q; rw [hn] at e'; cases e'
      obtain ⟨a, b⟩ := set_b R (k0.step S) hf bx hB (fresh_not_own R0 S hn) n
      exact h _ _ _ a b
    | r t =>
      cases q : esc (.r t) e with
      | none => simp only [q] at h; exact h.elim
      | some te => obtain ⟨t', e'⟩ := te; simp only [q] at h; exact tree t' e' q h
    | s j =>
      cases q : esc (.s j) e with
      | none => simp only [q] at h; exact h.elim
      | some te => obtain ⟨t', e'⟩ := te; simp only [q] at h; exact tree t' e' q h
end
section
variable {X : Cx} {W : WX} {B : Bd} {a b c : Expr} {ma mb mc : SemE} {pos : Pos} {st : Stmt} {sts : List Stmt} {m1 m2 : SemS}
def sSet (i : Nat) (m : SemE) : SemS := fun e => (m e).bind fun r e1 => setO i r e1
theorem asg_read {i : Nat} {m : SemE} {K : PySem.W.Frag} {D : Ends} {σ : Sg} {H : Hp} (h : tS K W B (sSet i m) D σ H) : tAsg (tE K W m) (gName i) D σ H := by
  obtain ⟨e, F, R, k, h⟩ := h
  exact tX_imp (tS_bind (rel := fun σ => OdR K σ) R k h) fun x H1 ⟨r, e1, F1, R1, S1, k1, O, h1⟩ => set_ok R k R1 S1 O h1
theorem qset {i : Nat} {x : Str} {pos' : Pos} (hN : X.N.Nodup) (hi : X.N[i]? = some x) (hx : Loc X.env.scope x) (he : QE X W a ma) (hs : swapsWith a (some (.Name x pos')) pos.line X.env = pure false := by rfl)
    (hf : X.fn x = true ∨ X.env.scope.names.lookup x = some .local := by first | exact .inl rfl | exact .inr rfl | assumption) : QS X W B (.Assign [.Name x pos'] a pos) (sSet i ma) :=
  ps_mono (ps_set hN hi hx he hs hf) fun D σ H h => asg_read h
def sDrop (m : SemE) : SemS := fun e => (m e).bind fun _ e1 => .ok .nx e1
theorem qexpr (he : QE X W a ma) (hs : swapsWith a none pos.line X.env = pure false := by rfl) : QS X W B (.Expr a pos) (sDrop ma) := by
  refine ps_mono (ps_expr he hs) fun D σ H h => ?_
  obtain ⟨e, F, R, k, h⟩ := h
  exact tX_imp (tS_bind (rel := fun σ => OdR X.K σ) R k h) fun x H1 ⟨r, e1, F1, R1, S1, k1, O, h1⟩ => h1 _ _ _ R1 k1
def sNil : SemS := fun e => .ok .nx e
theorem qnil : QSs X W B [] sNil := pss_mono pss_nil fun D σ H ⟨e, F, R, k, h⟩ => h _ _ _ R k
def sBrk : SemS := fun e => .ok .bk e
def sCnt : SemS := fun e => .ok .ct e
def sNever : SemS := fun _ => .bad
theorem qnevers : QSs X W B sts sNever := pss_mono pss_never fun D σ H ⟨e, F, R, k, h⟩ => h.elim
def sSeq (m1 m2 : SemS) : SemS := fun e => match m1 e with
  | .ok .nx e1 => m2 e1
  | o => o
theorem qcons (h1 : QS X W B st m1) (h2 : QSs X W B sts m2) : QSs X W B (st :: sts) (sSeq m1 m2) := by
  refine pss_mono (pss_cons h1 h2) fun D σ H h => ?_
  obtain ⟨e, F, R, k, h⟩ := h
  refine ⟨e, F, R, k, ?_⟩
  unfold sSeq at h
  cases q : m1 e with
  | bad => rw [q] at h; exact h
  | exc c t e' => rw [q] at h; exact h
  | ok f e' =>
    rw [q] at h
    cases f with
    | nx => exact fun σ' F' H' R' k' => ⟨e', F', R', k', h⟩
    | rt r => exact h
    | bk => exact h
    | ct => exact h
theorem qone (h1 : QS X W B st m1) : QSs X W B [st] m1 := pss_one h1
def sIf (c : SemT) (m1 m2 : SemS) : SemS := fun e => (c e).bind fun k e1 => if k then m1 e1 else m2 e1
theorem qif {mt : SemT} {s1 s2 : List Stmt} (hc : QT X W c mt) (h1 : QSs X W B s1 m1) (h2 : QSs X W B s2 m2) : QS X W B (.If c s1 s2 pos) (sIf mt m1 m2) := by
  refine ps_mono (ps_if hc h1 h2) fun D σ H h => ?_
  obtain ⟨e, F, R, k, h⟩ := h
  refine tX_imp (tS_bind (rel := fun _ _ _ _ (x : Bool) r => x = r) R k h) fun x H1 ⟨r, e1, F1, R1, S1, k1, O, h1⟩ => ?_
  subst O
  cases x with
  | true => exact ⟨e1, F1, R1, k1, h1⟩
  | false => exact ⟨e1, F1, R1, k1, h1⟩
/-- return: what a name alone holds goes with it -/
def retO (r : Od) (e : En) : Out Fl := match r with
  | .r t => .ok (.rt (.r t)) e
  | .b z => .ok (.rt (.b z)) e
  | .s i => match e[i]? with
    | some (.ow false z) => .ok (.rt (.b z)) (e.set i .un)
    | _ => (match esc (.s i) e with
      | some (t, e') => .ok (.rt (.r t)) e'
      | none => .bad)
def sRet (m : SemE) : SemS := fun e => (m e).bind fun r e1 => retO r e1
end
end Ev

set_option Elab.async false
set_option linter.all false
set_option maxRecDepth 100000
namespace Ev
open PySem PySem.Spec PyProof.Rows L2
section
variable {K : PySem.W.Frag} {W : WX} {B : Bd} {e e1 e2 : En} {σ σ1 : Sg} {F H F1 H1 F2 H2 : Hp}
theorem set_un {i : Nat} (R : Rel K e σ F H) (k : BOk B e σ F H) (n : ¬ Lent e i) : Rel K (e.set i .un) σ F H ∧ BOk B (e.set i .un) σ F H := by
  have get : ∀ (j : Nat) (s : Sl), (e.set i .un)[j]? = some s → s = .un ∨ e[j]? = some s := fun j s h => by
    by_cases q : i = j
    · subst q
      have hi : i < e.length := by have := (List.getElem?_eq_some_iff.mp h).1; simpa using this
      rw [List.getElem?_set_self hi] at h; cases h; exact .inl rfl
    · rw [List.getElem?_set_ne q] at h; exact .inr h
  have gow : ∀ (j : Nat) (l : Bool) (b : Bx), (e.set i .un)[j]? = some (.ow l b) → e[j]? = some (.ow l b) := fun j l b h => by
    rcases get j _ h with z | z
    · cases z
    · exact z
  refine ⟨⟨R.sub, by simp [R.len], fun j s o h1 h2 => ?_, fun j j' l b l' b' p h1 h2 => R.ne j j' l b l' b' p (gow _ _ _ h1) (gow _ _ _ h2)⟩, ⟨k.ff, k.keep, k.dom, fun j b p h1 => k.fresh j b p (gow _ _ _ h1), fun j b h1 => k.own j b (gow _ _ _ h1), fun j b h => ?_⟩⟩
  · rcases get j s h1 with rfl | z
    · trivial
    · exact R.at_ j s o z h2
  · obtain ⟨⟨b', l⟩, q⟩ := k.lent j b h
    have ne : i ≠ j := fun z => n (by rw [z]; exact ⟨b', l⟩)
    exact ⟨⟨b', by rw [List.getElem?_set_ne ne]; exact l⟩, q⟩
theorem ret_ok {r : Od} {x : V} {D : Ends} {e0 : En} {F0 H0 : Hp} (R0 : Rel K e0 σ F0 H0) (k0 : BOk B e0 σ F0 H0) (R : Rel K e σ F H) (S : Step e0 e σ F0 H0 F H) (O : OdR K σ H0 F H x r) (h : OutS K W B (retO r e) D) : D.rt x H := by
  have k := k0.step S
  have hB : ∀ p, H0 p = none → B.H p = none := fun p hn => by
    cases q : B.H p with
    | none => rfl
    | some o => obtain ⟨o', e'⟩ := k0.dom _ _ q; rw [hn] at e'; cases e'
  cases r with
  | r t => exact h x σ F H R k O
  | b z => obtain ⟨p, ep, hn, hf, bx⟩ := O; exact h x σ F H R k ⟨p, ep, hB p hn, hf, bx⟩
  | s i =>
    have hs : σ[i]? = some (some x) := O
    have tree : ∀ t e', esc (.s i) e = some (t, e') → OutS K W B (.ok (.rt (.r t)) e') D → D.rt x H := fun t e' q h => by
      obtain ⟨F', R', S', d, _⟩ := esc_ok R0 R S O q
      exact h x σ F' H R' (k0.step S') d
    have other : (match esc (.s i) e with
      | some (t, e') => OutS K W B (.ok (.rt (.r t)) e') D
      | none => False) → D.rt x H := fun h => by
      cases q : esc (.s i) e with
      | none => rw [q] at h; exact h.elim
      | some te => obtain ⟨t, e'⟩ := te; rw [q] at h; exact tree t e' q h
    have conv : OutS K W B (match esc (.s i) e with
      | some (t, e') => .ok (.rt (.r t)) e'
      | none => .bad) D → D.rt x H := fun h => by
      cases q : esc (.s i) e with
      | none => rw [q] at h; exact h.elim
      | some te => obtain ⟨t, e'⟩ := te; rw [q] at h; exact tree t e' q h
    simp only [retO] at h
    cases q : e[i]? with
    | none => rw [q] at h; exact conv h
    | some s =>
      rw [q] at h
      cases s with
      | un => exact conv h
      | v _ => exact conv h
      | fz _ => exact conv h
      | ow l z =>
        cases l with
        | true => exact conv h
        | false =>
          obtain ⟨p, ep, hf, bx⟩ := R.at_ i _ _ q hs
          cases ep
          have n : ¬ Lent e i := fun ⟨b, w⟩ => by rw [q] at w; rcases w with w | w <;> cases w
          obtain ⟨R', k'⟩ := set_un R k n
          exact h _ σ F H R' k' ⟨p, rfl, k.fresh i z p q hs, hf, bx⟩
end
section
variable {X : Cx} {W : WX} {B : Bd} {a b c : Expr} {ma mb mc : SemE} {pos : Pos} {st : Stmt} {sts : List Stmt} {m1 m2 : SemS} {t1 t2 : SemT}
theorem qret (he : QE X W a ma) : QS X W B (.Return (some a) pos) (sRet ma) := by
  refine ps_mono (ps_ret he) fun D σ H h => ?_
  obtain ⟨e, F, R, k, h⟩ := h
  exact tX_imp (tS_bind (rel := fun σ => OdR X.K σ) R k h) fun x H1 ⟨r, e1, F1, R1, S1, k1, O, h1⟩ => ret_ok R k R1 S1 O h1
def sRetN : SemS := fun e => .ok (.rt (.r .none)) e
/-! ### tests -/
/-- the truth of a bool -/
def tb (m : SemE) : SemT := fun e => (m e).bind fun r e1 => match r.val e1 with
  | some (.bool k) => .ok k e1
  | _ => .bad
theorem tb_read {m : SemE} {σ : Sg} {H : Hp} {K : PySem.W.Frag} {Q : Bool → Hp → Prop} (h : tT K W (tb m) σ H Q) : tE K W m σ H fun x H' => ∃ k, x = .bl k ∧ Q k H' := by
  obtain ⟨e, F, R, h⟩ := h
  refine tX_imp (tX_bind R .refl h) fun x H1 ⟨r, e1, F1, R1, S1, O1, h1⟩ => ?_
  cases q : r.val e1 with
  | none => simp only [q] at h1; exact h1.elim
  | some t =>
    have d := val_ok R1 O1 q
    cases t with
    | bool k => simp only [q] at h1; cases d; exact ⟨k, rfl, h1 k F1 H1 R1 S1 rfl⟩
    | none => simp only [q] at h1; exact h1.elim
    | int _ => simp only [q] at h1; exact h1.elim
    | str _ => simp only [q] at h1; exact h1.elim
    | list _ => simp only [q] at h1; exact h1.elim
    | tuple _ => simp only [q] at h1; exact h1.elim
    | dict _ => simp only [q] at h1; exact h1.elim
theorem qtval (h : QE X W a ma) (he : ∀ whole, isTrue a X.env whole = (do let v ← whole; standAt a.pos; holding [v] (truthy v)) := by intro _; rfl) : QT X W a (tb ma) :=
  pt_mono (pt_val h he) fun σ H Q h => tb_read h
theorem qtcmp {f : CmpOp} {r : R2} {g : T → T → Option Od} (ho : OpR X (compareOp f) r) (hr : Does2 X.K r g) (ha : QE X W a ma) (hb : QE X W b mb) (hm : behindInMarks f b = false := by first | rfl | exact nomark _) : QT X W (.Compare a [f] [b] pos) (tb (eOp2 g ma mb)) :=
  pt_mono (pt_cmpR ho ha hb hm) fun σ H Q h => tX_imp (two (tb_read h)) fun x H1 h1 => tX_imp h1 fun y H2 h2 => does2 hr h2
def tNot (t : SemT) : SemT := fun e => (t e).bind fun k e1 => .ok (!k) e1
theorem qtnot (h : QT X W a t1) : QT X W (.UnaryOp .Not a pos) (tNot t1) := by
  refine pt_mono (pt_not h) fun σ H Q h => ?_
  obtain ⟨e, F, R, h⟩ := h
  exact tX_imp (tX_bind (rel := fun _ _ _ _ (x : Bool) r => x = r) R .refl h) fun x H1 ⟨r, e1, F1, R1, S1, O1, h1⟩ => by subst O1; exact h1 _ F1 H1 R1 S1 rfl
abbrev QW (X : Cx) (W : WX) (ex : Expr) (m : SemT) : Prop := PW X ex (tT X.K W m)
theorem pw_mono {X : Cx} {ex : Expr} {t t' : TT} (h : PW X ex t) (m : ∀ σ H Q, t' σ H Q → t σ H Q) : PW X ex t' := ⟨fun wh pins s σ H Q I q => h.run wh pins s σ H Q I (m σ H Q q)⟩
def tAnd (t1 t2 : SemT) : SemT := fun e => (t1 e).bind fun k e1 => if k then t2 e1 else .ok false e1
def tOr (t1 t2 : SemT) : SemT := fun e => (t1 e).bind fun k e1 => if k then .ok true e1 else t2 e1
theorem qw_and1 (h : QT X W a t1) : QW X W (.BoolOp .And [a] pos) t1 := pw_and1 h
theorem qw_or1 (h : QT X W a t1) : QW X W (.BoolOp .Or [a] pos) t1 := pw_or1 h
theorem outT_trans {K : PySem.W.Frag} {m : SemT} {e e1 : En} {σ : Sg} {F H F1 H1 : Hp} {Q : Bool → Hp → Prop} (R : Rel K e1 σ F1 H1) (S : Step e e1 σ F H F1 H1) (h : OutX K W (fun _ _ _ (x : Bool) r => x = r) (m e1) e σ F H Q) : tT K W m σ H1 Q := by
  refine ⟨e1, F1, R, ?_⟩
  cases q : m e1 with
  | bad => rw [q] at h; exact h
  | exc c t e' => rw [q] at h; exact fun F' H' cls d R' S' => h F' H' cls d R' (S.trans S')
  | ok r e' => rw [q] at h; exact fun x F' H' R' S' => h x F' H' R' (S.trans S')
theorem qw_and {rest : List Expr} (ha : QT X W a t1) (hb : QW X W (.BoolOp .And (b :: rest) pos) t2) : QW X W (.BoolOp .And (a :: b :: rest) pos) (tAnd t1 t2) := by
  refine pw_mono (pw_and ha hb) fun σ H Q h => ?_
  obtain ⟨e, F, R, h⟩ := h
  refine tX_imp (tX_bind (rel := fun _ _ _ _ (x : Bool) r => x = r) R .refl h) fun x H1 ⟨r, e1, F1, R1, S1, O1, h1⟩ => ?_
  subst O1
  cases x with
  | true => exact outT_trans R1 S1 h1
  | false => exact h1 _ F1 H1 R1 S1 rfl
theorem qw_or {rest : List Expr} (ha : QT X W a t1) (hb : QW X W (.BoolOp .Or (b :: rest) pos) t2) : QW X W (.BoolOp .Or (a :: b :: rest) pos) (tOr t1 t2) := by
  refine pw_mono (pw_or ha hb) fun σ H Q h => ?_
  obtain ⟨e, F, R, h⟩ := h
  refine tX_imp (tX_bind (rel := fun _ _ _ _ (x : Bool) r => x = r) R .refl h) fun x H1 ⟨r, e1, F1, R1, S1, O1, h1⟩ => ?_
  subst O1
  cases x with
  | true => exact h1 _ F1 H1 R1 S1 rfl
  | false => exact outT_trans R1 S1 h1
theorem QW.t (h : QW X W a t1) : QT X W a t1 := h.pt
/-! ### and, or, not, if as values -/
theorem outE_trans {K : PySem.W.Frag} {m : SemE} {e e1 : En} {σ : Sg} {F H F1 H1 : Hp} {Q : VK} (R : Rel K e1 σ F1 H1) (S : Step e e1 σ F H F1 H1) (h : OutX K W (OdR K σ) (m e1) e σ F H Q) : tE K W m σ H1 Q := by
  refine ⟨e1, F1, R, ?_⟩
  cases q : m e1 with
  | bad => rw [q] at h; exact h
  | exc c t e' => rw [q] at h; exact fun F' H' cls d R' S' => h F' H' cls d R' (S.trans S')
  | ok r e' => rw [q] at h; exact fun x F' H' R' S' O => h x F' H' R' (S.trans S') (od_back O S)
def eAnd (ma mb : SemE) : SemE := fun e => (tb ma e).bind fun k e1 => if k then mb e1 else .ok (.r (.bool false)) e1
def eOr (ma mb : SemE) : SemE := fun e => (tb ma e).bind fun k e1 => if k then .ok (.r (.bool true)) e1 else mb e1
theorem qone_ {op : BoolOp} (h : QE X W a ma) : QE X W (.BoolOp op [a] pos) ma := pe_one h
theorem qand {rest : List Expr} (ha : QE X W a ma) (hb : QE X W (.BoolOp .And (b :: rest) pos) mb) : QE X W (.BoolOp .And (a :: b :: rest) pos) (eAnd ma mb) := by
  refine pe_mono (pe_and ha hb) fun σ H Q h => ?_
  obtain ⟨e, F, R, h⟩ := h
  have z := tX_bind (m := tb ma) (rel := fun _ _ _ _ (x : Bool) r => x = r) R .refl h
  refine tX_imp (tb_read z) fun x H1 ⟨k, ex, r, e1, F1, R1, S1, O1, h1⟩ => ⟨k, ex, ?_⟩
  subst O1
  cases k with
  | true => exact outE_trans R1 S1 h1
  | false => exact h1 _ F1 H1 R1 S1 (.bl false)
def eNot (ma : SemE) : SemE := fun e => (tb ma e).bind fun k e1 => .ok (.r (.bool !k)) e1
theorem qnot (ha : QE X W a ma) : QE X W (.UnaryOp .Not a pos) (eNot ma) := by
  refine pe_mono (pe_not ha) fun σ H Q h => ?_
  obtain ⟨e, F, R, h⟩ := h
  have z := tX_bind (m := tb ma) (rel := fun _ _ _ _ (x : Bool) r => x = r) R .refl h
  refine tX_imp (tb_read z) fun x H1 ⟨k, ex, r, e1, F1, R1, S1, O1, h1⟩ => ⟨k, ex, ?_⟩
  subst O1
  exact h1 _ F1 H1 R1 S1 (.bl _)
def eIf (t : SemT) (ma mb : SemE) : SemE := fun e => (t e).bind fun k e1 => if k then ma e1 else mb e1
theorem qifx (hc : QT X W c t1) (ha : QE X W a ma) (hb : QE X W b mb) : QE X W (.IfExp c a b pos) (eIf t1 ma mb) := by
  refine pe_mono (pe_ifExp hc ha hb) fun σ H Q h => ?_
  obtain ⟨e, F, R, h⟩ := h
  refine tX_imp (tX_bind (rel := fun _ _ _ _ (x : Bool) r => x = r) R .refl h) fun x H1 ⟨r, e1, F1, R1, S1, O1, h1⟩ => ?_
  subst O1
  cases x with
  | true => exact outE_trans R1 S1 h1
  | false => exact outE_trans R1 S1 h1
end
end Ev

set_option Elab.async false
set_option linter.all false
set_option maxRecDepth 100000
namespace Ev
open PySem PySem.Spec PyProof.Rows L2
section
variable {X : Cx}
theorem opr_or {f : Value → Value → Sem Value} {r r' : R2} (h : OpR X f r) (h' : OpR X f r') : OpR X f (fun x y H Q => r x y H Q ∨ r' x y H Q) := by
  intro pins s σ H x y v u Q I rx ry q
  rcases q with q | q
  · exact h pins s σ H x y v u Q I rx ry q
  · exact h' pins s σ H x y v u Q I rx ry q
def rCatS (K : PySem.W.Frag) : R2 := fun x y H Q => ∃ l b xs zs, x = .ref l ∧ y = .ref b ∧ SqL K H l xs ∧ SqL K H b zs ∧ xs.length + zs.length ≤ sizeLine ∧ ∀ p, H p = none → Q (.ref p) (upd H p (.lst (xs ++ zs)))
theorem op_catS : OpR X (binaryOp .Add) (rCatS X.K) := by
  intro pins s σ H x y v u Q I rx ry h
  obtain ⟨l, b, xs, zs, rfl, rfl, hH, hB, hz, q⟩ := h
  cases rx
  cases ry
  obtain ⟨its, r, ⟨⟨cls, dd, data, sl⟩, n, ho, hc, hd0, hd⟩, _⟩ := I.list hH
  obtain ⟨its2, r2, ⟨⟨cls2, dd2, data2, sl2⟩, n2, ho2, hc2, hd02, hd2⟩, _⟩ := I.list hB
  simp only at hc hd hc2 hd2 hd0 hd02
  subst hc hd hc2 hd2 hd0 hd02
  have hl := r.length
  have hl2 := r2.length
  refine concat_meets ⟨_, ho, rfl⟩ ⟨_, ho2, rfl⟩ noFill_list_add seq_list_add PySem.F.slot_list_add PySem.F.entry_list_add (PySem.F.args_list_add_2 _ _) (list_addW l b its.toArray its2.toArray n n2 none none sl sl2 (by simp; omega)) ⟨ho, ho2, ?_⟩
  have ea : its.toArray ++ its2.toArray = (its ++ its2).toArray := by simp
  rw [ea]
  exact ⟨.ref _, _, I.lnew (t' := s.toks) (r.append r2) (by rw [List.length_append]; omega), rfl, q _ I.fresh⟩
end
/-! ### what operations hand back -/
def gAdd : T → T → Option Od
  | .int i, .int j => some (.r (.int (i + j)))
  | .str i, .str j => if i.length + j.length ≤ sizeLine then some (.r (.str (i ++ j))) else none
  | .list xs, .list ys => if xs.length + ys.length ≤ sizeLine then some (.b (.l (xs ++ ys))) else none
  | .tuple xs, .tuple ys => if xs.length + ys.length ≤ sizeLine then some (.r (.tuple (xs ++ ys))) else none
  | _, _ => none
def rAdd4 (K : PySem.W.Frag) : R2 := fun x y H Q => (((∃ i j, x = .int i ∧ y = .int j ∧ Q (.int (i + j)) H) ∨ ∃ i j, x = .str i ∧ y = .str j ∧ i.length + j.length ≤ sizeLine ∧ Q (.str (i ++ j)) H) ∨ rCatS K x y H Q) ∨ rCatA K x y H Q
theorem op_add4 {X : Cx} : OpR X (binaryOp .Add) (rAdd4 X.K) := opr_or (opr_or (opr_or op_add op_add_str) op_catS) op_catA
theorem does_add {K : PySem.W.Frag} : Does2 K (rAdd4 K) gAdd := by
  intro x y t u w F H Q ff dx dy hg
  cases t with
  | int i =>
    cases u with
    | int j => cases hg; cases dx; cases dy; exact ⟨trivial, fun q => .inl (.inl (.inl ⟨i, j, rfl, rfl, q.1 _ (.int _)⟩))⟩
    | _ => cases hg
  | str i =>
    cases u with
    | str j =>
      simp only [gAdd] at hg
      split at hg
      · cases hg; cases dx; cases dy; rename_i hl; exact ⟨trivial, fun q => .inl (.inl (.inr ⟨i, j, rfl, rfl, hl, q.1 _ (.str _)⟩))⟩
      · cases hg
    | _ => cases hg
  | list xs =>
    cases u with
    | list ys =>
      simp only [gAdd] at hg
      split at hg
      · cases hg
        rename_i hl
        obtain ⟨p, vs, rfl, h1, d1⟩ := dx
        obtain ⟨p2, vs2, rfl, h2, d2⟩ := dy
        refine ⟨trivial, fun q => .inl (.inr ⟨p, p2, vs, vs2, rfl, rfl, h1, h2, by rw [dpAll_len d1, dpAll_len d2]; exact hl, fun p hp => q p _ hp (dpAll_app d1 d2)⟩)⟩
      · cases hg
    | _ => cases hg
  | tuple xs =>
    cases u with
    | tuple ys =>
      simp only [gAdd] at hg
      split at hg
      · cases hg
        rename_i hl
        have dx0 : Dp K F x (.tuple xs) := dx
        have dy0 : Dp K F y (.tuple ys) := dy
        cases dx with
        | tup h1 d1 =>
          cases dy with
          | tup h2 d2 =>
            refine ⟨trivial, fun q => .inr ⟨_, _, _, _, rfl, rfl, tupS ff h1, tupS ff h2, by rw [dpAll_len d1, dpAll_len d2]; exact hl, fun e => ?_, fun _ e => ?_, fun _ _ p hp => q.2 _ p _ rfl hp (dpAll_app d1 d2)⟩⟩
            · subst e; cases d1; exact q.1 _ dy0
            · subst e; cases d2; rw [List.append_nil] at q; exact q.1 _ dx0
      · cases hg
    | _ => cases hg
  | _ => cases hg
/-- ints -/
def gII (c : Int → Int → Bool) (g : Int → Int → T) : T → T → Option Od
  | .int i, .int j => if c i j then some (.r (g i j)) else none
  | _, _ => none
theorem does_ii {K : PySem.W.Frag} {C : Int → Int → Prop} {c : Int → Int → Bool} {g : Int → Int → V} {g' : Int → Int → T} (hc : ∀ i j, c i j = true → C i j) (hg : ∀ i j F, Dp K F (g i j) (g' i j)) : Does2 K (rI C g) (gII c g') := by
  intro x y t u w F H Q ff dx dy h
  cases t with
  | int i =>
    cases u with
    | int j =>
      simp only [gII] at h
      split at h
      · rename_i hl; cases h; cases dx; cases dy; exact ⟨trivial, fun q => ⟨i, j, rfl, rfl, hc i j hl, q.1 _ (hg i j F)⟩⟩
      · cases h
    | _ => cases h
  | _ => cases h
theorem does_ii0 {K : PySem.W.Frag} {g : Int → Int → V} {g' : Int → Int → T} (hg : ∀ i j F, Dp K F (g i j) (g' i j)) : Does2 K (rI0 g) (gII (fun _ _ => true) g') := by
  intro x y t u w F H Q ff dx dy h
  obtain ⟨a, b⟩ := does_ii (C := fun _ _ => True) (c := fun _ _ => true) (fun _ _ _ => trivial) hg x y t u w F H Q ff dx dy h
  refine ⟨a, fun q => ?_⟩
  obtain ⟨i, j, h1, h2, _, h3⟩ := b q
  exact ⟨i, j, h1, h2, h3⟩
abbrev gSub : T → T → Option Od := gII (fun _ _ => true) fun i j => .int (i - j)
theorem does_sub {K : PySem.W.Frag} : Does2 K (rI0 fun i j => .int (i - j)) gSub := does_ii0 fun _ _ _ => .int _
abbrev gMod : T → T → Option Od := gII (fun _ j => decide (0 < j)) fun i j => .int (i % j)
theorem does_mod {K : PySem.W.Frag} : Does2 K (rI (fun _ j => 0 < j) fun i j => .int (i % j)) gMod := does_ii (fun _ _ h => of_decide_eq_true h) fun _ _ _ => .int _
abbrev gDiv : T → T → Option Od := gII (fun _ j => decide (0 < j ∧ j.natAbs.log2 < 9000)) fun i j => .int (i / j)
theorem does_div {K : PySem.W.Frag} : Does2 K (rI CDivW fun i j => .int (i / j)) gDiv := does_ii (fun i j h => of_decide_eq_true (p := 0 < j ∧ j.natAbs.log2 < 9000) h) fun _ _ _ => .int _
abbrev gPow : T → T → Option Od := gII (fun i j => decide (0 ≤ j ∧ j ≤ 1000000 ∧ i.natAbs < 2 ^ 64)) fun i j => .int (i ^ j.toNat)
theorem does_pow {K : PySem.W.Frag} : Does2 K (rI CPow fun i j => .int (i ^ j.toNat)) gPow := does_ii (fun i j h => of_decide_eq_true (p := 0 ≤ j ∧ j ≤ 1000000 ∧ i.natAbs < 2 ^ 64) h) fun _ _ _ => .int _
def mulOk (i j : Int) : Bool := decide (i.natAbs.log2 + j.natAbs.log2 < 1000000)
def gMul : T → T → Option Od
  | .int i, .int j => if mulOk i j then some (.r (.int (i * j))) else none
  | _, _ => none
theorem does_mul {K : PySem.W.Frag} : Does2 K (rI CMulW fun i j => .int (i * j)) gMul := by
  intro x y t u w F H Q ff dx dy h
  refine does_ii (K := K) (C := CMulW) (c := mulOk) (g' := fun i j => .int (i * j)) (fun i j h => of_decide_eq_true (p := i.natAbs.log2 + j.natAbs.log2 < 1000000) h) (fun _ _ _ => .int _) x y t u w F H Q ff dx dy ?_
  cases t <;> cases u <;> first | exact h | cases h
abbrev gLt : T → T → Option Od := gII (fun _ _ => true) fun i j => .bool (decide (i < j))
abbrev gLe : T → T → Option Od := gII (fun _ _ => true) fun i j => .bool (decide (i ≤ j))
abbrev gGt : T → T → Option Od := gII (fun _ _ => true) fun i j => .bool (decide (j < i))
abbrev gGe : T → T → Option Od := gII (fun _ _ => true) fun i j => .bool (decide (j ≤ i))
theorem does_lt {K : PySem.W.Frag} : Does2 K (rI0 fun i j => .bl (decide (i < j))) gLt := does_ii0 fun _ _ _ => .bl _
theorem does_le {K : PySem.W.Frag} : Does2 K (rI0 fun i j => .bl (decide (i ≤ j))) gLe := does_ii0 fun _ _ _ => .bl _
theorem does_gt {K : PySem.W.Frag} : Does2 K (rI0 fun i j => .bl (decide (j < i))) gGt := does_ii0 fun _ _ _ => .bl _
theorem does_ge {K : PySem.W.Frag} : Does2 K (rI0 fun i j => .bl (decide (j ≤ i))) gGe := does_ii0 fun _ _ _ => .bl _
/-- == on data -/
def gEq (k : Bool → Bool) : T → T → Option Od := fun t u => if SeqAt.shaped t && SeqAt.shaped u then some (.r (.bool (k (PyData.eqv t u)))) else none
theorem does_eq {K : PySem.W.Frag} : Does2 K (rEqD K) (gEq id) := by
  intro x y t u w F H Q ff dx dy h
  simp only [gEq] at h
  split at h
  · rename_i hs
    rw [Bool.and_eq_true] at hs
    cases h
    exact ⟨trivial, fun q => ⟨t, u, dp_hand _ (noD_sh hs.1) (dx.dp ff), dp_hand _ (noD_sh hs.2) (dy.dp ff), hs.1, hs.2, q.1 _ (.bl _)⟩⟩
  · cases h
theorem does_ne {K : PySem.W.Frag} : Does2 K (rNeD K) (gEq not) := by
  intro x y t u w F H Q ff dx dy h
  simp only [gEq] at h
  split at h
  · rename_i hs
    rw [Bool.and_eq_true] at hs
    cases h
    exact ⟨trivial, fun q => ⟨t, u, dp_hand _ (noD_sh hs.1) (dx.dp ff), dp_hand _ (noD_sh hs.2) (dy.dp ff), hs.1, hs.2, q.1 _ (.bl _)⟩⟩
  · cases h
def isN : T → Bool
  | .none => true
  | _ => false
/-- is None -/
def gIsN (k : Bool → Bool) : T → T → Option Od := fun t u => match u with
  | .none => some (.r (.bool (k (isN t))))
  | _ => none
theorem dpo_non {K : PySem.W.Frag} {F H : Hp} {x : V} {t : T} (d : DpO K F H x t) : decide (x = .non) = isN t := by
  cases t with
  | list ts => obtain ⟨p, xs, rfl, _⟩ := d; rfl
  | none => cases d; rfl
  | bool _ => cases d; rfl
  | int _ => cases d; rfl
  | str _ => cases d; rfl
  | tuple _ => cases d; rfl
  | dict _ => cases d; rfl
theorem does_isN {K : PySem.W.Frag} : Does2 K (fun x y H Q => y = .non ∧ Q (.bl (decide (x = .non))) H) (gIsN id) := by
  intro x y t u w F H Q ff dx dy h
  cases u with
  | none => cases h; cases dy; exact ⟨trivial, fun q => ⟨rfl, by rw [dpo_non dx]; exact q.1 _ (.bl _)⟩⟩
  | _ => cases h
/-! ### in -/
def flatT : T → Bool
  | .none => true
  | .bool _ => true
  | .int _ => true
  | .str _ => true
  | _ => false
def gIn (k : Bool → Bool) : T → T → Option Od := fun t u => match u with
  | .list ds => if SeqAt.shaped t && SeqAt.shaped (.list ds) then some (.r (.bool (k (ds.any fun z => PyData.eqv z t)))) else none
  | .tuple ds => if flatT t && ds.all flatT then some (.r (.bool (k (ds.any fun z => PyData.eqv z t)))) else none
  | _ => none
theorem dp_flat {K : PySem.W.Frag} {F : Hp} {x : V} {t : T} (d : Dp K F x t) (h : flatT t = true) : flatV x = true := by
  cases d <;> first | rfl | cases h
theorem dp_flats {K : PySem.W.Frag} {F : Hp} : ∀ {ts : List T} {xs : List V}, DpAll K F xs ts → ts.all flatT = true → xs.all flatV = true
  | [], _, h, _ => by cases h; rfl
  | t :: ts, _, .cons a b, h => by
    rw [List.all_cons, Bool.and_eq_true] at h
    rw [List.all_cons, dp_flat a h.1, dp_flats b h.2]
    rfl
theorem flat_eqv {K : PySem.W.Frag} {F : Hp} {x y : V} {t u : T} (d : Dp K F x t) (d' : Dp K F y u) (h : flatT t = true) (h' : flatT u = true) : eqV x y = PyData.eqv t u := by
  cases d <;> cases d' <;> first | (simp only [eqV, PyData.eqv]; done) | cases h | cases h' | (simp [eqV, PyData.eqv]; done) | (unfold eqV PyData.eqv; rfl)
theorem flat_any {K : PySem.W.Frag} {F : Hp} {x : V} {t : T} (d : Dp K F x t) (h : flatT t = true) : ∀ {ts : List T} {xs : List V}, DpAll K F xs ts → ts.all flatT = true → inV x xs = ts.any fun z => PyData.eqv z t
  | [], _, h1, _ => by cases h1; rfl
  | u :: ts, _, .cons a b, h1 => by
    rw [List.all_cons, Bool.and_eq_true] at h1
    have e := flat_any d h b h1.2
    unfold inV at e ⊢
    rw [List.any_cons, List.any_cons, e, flat_eqv a d h1.1 h]
def rIn2 (K : PySem.W.Frag) : R2 := fun x y H Q => rInD K x y H Q ∨ rIn K false x y H Q
def rNotIn2 (K : PySem.W.Frag) : R2 := fun x y H Q => rNotInD K x y H Q ∨ rIn K true x y H Q
theorem op_in2 {X : Cx} (hu : X.A.units + 65 < cLine) : OpR X (compareOp .In) (rIn2 X.K) := opr_or (op_inD hu) op_in_seq
theorem op_notIn2 {X : Cx} (hu : X.A.units + 65 < cLine) : OpR X (compareOp .NotIn) (rNotIn2 X.K) := opr_or (op_notInD hu) op_notIn_seq
theorem does_in {K : PySem.W.Frag} : Does2 K (rIn2 K) (gIn id) := by
  intro x y t u w F H Q ff dx dy h
  cases u with
  | list ds =>
    simp only [gIn] at h
    split at h
    · rename_i hs
      rw [Bool.and_eq_true] at hs
      cases h
      exact ⟨trivial, fun q => .inl ⟨t, ds, dp_hand _ (noD_sh hs.1) (dx.dp ff), dp_hand _ (noD_sh hs.2) (dy.dp ff), hs.1, hs.2, q.1 _ (.bl _)⟩⟩
    · cases h
  | tuple ds =>
    simp only [gIn] at h
    split at h
    · rename_i hs
      rw [Bool.and_eq_true] at hs
      cases h
      cases dy with
      | tup h1 d1 =>
        have dx' : Dp K F x t := by cases t <;> first | exact dx | (cases hs.1)
        exact ⟨trivial, fun q => .inr ⟨_, _, rfl, .inr (tupS ff h1), dp_flat dx' hs.1, dp_flats d1 hs.2, by rw [flat_any dx' hs.1 d1 hs.2]; exact q.1 _ (.bl _)⟩⟩
    · cases h
  | _ => cases h
theorem does_notIn {K : PySem.W.Frag} : Does2 K (rNotIn2 K) (gIn not) := by
  intro x y t u w F H Q ff dx dy h
  cases u with
  | list ds =>
    simp only [gIn] at h
    split at h
    · rename_i hs
      rw [Bool.and_eq_true] at hs
      cases h
      exact ⟨trivial, fun q => .inl ⟨t, ds, dp_hand _ (noD_sh hs.1) (dx.dp ff), dp_hand _ (noD_sh hs.2) (dy.dp ff), hs.1, hs.2, q.1 _ (.bl _)⟩⟩
    · cases h
  | tuple ds =>
    simp only [gIn] at h
    split at h
    · rename_i hs
      rw [Bool.and_eq_true] at hs
      cases h
      cases dy with
      | tup h1 d1 =>
        have dx' : Dp K F x t := by cases t <;> first | exact dx | (cases hs.1)
        exact ⟨trivial, fun q => .inr ⟨_, _, rfl, .inr (tupS ff h1), dp_flat dx' hs.1, dp_flats d1 hs.2, by rw [flat_any dx' hs.1 d1 hs.2]; exact q.1 _ (.bl _)⟩⟩
    · cases h
  | _ => cases h
/-! ### an item -/
def gIx : T → T → Option Od
  | .list ts, .int i => (atI ts i).map .r
  | .tuple ts, .int i => (atI ts i).map .r
  | _, _ => none
theorem atI_dp {K : PySem.W.Frag} {F : Hp} {ts : List T} {xs : List V} {i : Int} {t : T} (d : DpAll K F xs ts) (h : atI ts i = some t) : ∃ v, atI xs i = some v ∧ Dp K F v t := by
  unfold atI at h ⊢
  rw [dpAll_len d]
  cases q : ixN ts.length i with
  | none => rw [q] at h; cases h
  | some j => rw [q] at h; exact dpAll_get d h
def rIx2 (K : PySem.W.Frag) : R2 := fun x y H Q => rIxL K x y H Q ∨ rIxT K x y H Q
theorem ix2 {X : Cx} : IxR X (rIx2 X.K) := by
  intro value slice pins s σ H x y v u Q I rx ry h hs
  rcases h with h | h
  · exact ix_list value slice pins s σ H x y v u Q I rx ry h hs
  · exact ix_tup value slice pins s σ H x y v u Q I rx ry h hs
theorem does_ix {K : PySem.W.Frag} : Does2 K (rIx2 K) gIx := by
  intro x y t u w F H Q ff dx dy h
  cases t with
  | list ts =>
    cases u with
    | int i =>
      simp only [gIx] at h
      cases q : atI ts i with
      | none => rw [q] at h; cases h
      | some t' =>
        rw [q] at h; cases h
        obtain ⟨p, xs, rfl, h1, d1⟩ := dx
        cases dy
        obtain ⟨v, hv, dv⟩ := atI_dp d1 q
        exact ⟨trivial, fun k => .inl ⟨p, xs, i, v, rfl, rfl, h1, hv, k.1 _ dv⟩⟩
    | _ => cases h
  | tuple ts =>
    cases u with
    | int i =>
      simp only [gIx] at h
      cases q : atI ts i with
      | none => rw [q] at h; cases h
      | some t' =>
        rw [q] at h; cases h
        cases dy
        cases dx with
        | tup h1 d1 =>
          obtain ⟨v, hv, dv⟩ := atI_dp d1 q
          exact ⟨trivial, fun k => .inr ⟨_, _, i, v, rfl, rfl, tupS ff h1, hv, k.1 _ dv⟩⟩
    | _ => cases h
  | _ => cases h
section
variable {X : Cx} {W : WX} {a b c : Expr} {ma mb mc : SemE} {pos : Pos}
theorem qix (ha : QE X W a ma) (hb : QE X W b mb) (hs : ∀ o i, subscripted b false o i = operate [o, i] (getItem o i) := by intros; rfl) : QE X W (.Subscript a b pos) (eOp2 gIx ma mb) :=
  pe_mono (pe_ix ix2 ha hb hs) fun σ H Q h => tX_imp (two h) fun x H1 h1 => tX_imp h1 fun y H2 h2 => does2 does_ix h2
def eNeg (m : SemE) : SemE := fun e => (m e).bind fun r e1 => match r.val e1 with
  | some (.int i) => .ok (.r (.int (-i))) e1
  | _ => .bad
theorem qneg (ha : QE X W a ma) : QE X W (.UnaryOp .USub a pos) (eNeg ma) := by
  refine pe_mono (pe_un un_neg ha) fun σ H Q h => ?_
  obtain ⟨e, F, R, h⟩ := h
  refine tX_imp (tX_bind (rel := fun σ => OdR X.K σ) R .refl h) fun x H1 ⟨r, e1, F1, R1, S1, O1, h1⟩ => ?_
  cases q : r.val e1 with
  | none => simp only [q] at h1; exact h1.elim
  | some t =>
    have d := val_ok R1 O1 q
    cases t with
    | int i => simp only [q] at h1; cases d; exact ⟨i, rfl, h1 _ F1 H1 R1 S1 (.int _)⟩
    | none => simp only [q] at h1; exact h1.elim
    | bool _ => simp only [q] at h1; exact h1.elim
    | str _ => simp only [q] at h1; exact h1.elim
    | list _ => simp only [q] at h1; exact h1.elim
    | tuple _ => simp only [q] at h1; exact h1.elim
    | dict _ => simp only [q] at h1; exact h1.elim
end
end Ev

set_option Elab.async false
set_option linter.all false
set_option maxRecDepth 100000
namespace Ev
open PySem PySem.Spec PyProof.Rows L2
/-! ### isinstance -/
def kindT : T → String
  | .none => "NoneType"
  | .bool _ => "bool"
  | .int _ => "int"
  | .str _ => "str"
  | .list _ => "list"
  | .tuple _ => "tuple"
  | .dict _ => "dict"
def isInt : T → Bool
  | .bool _ => true
  | .int _ => true
  | _ => false
def isBool : T → Bool
  | .bool _ => true
  | _ => false
def isStr : T → Bool
  | .str _ => true
  | _ => false
def isList : T → Bool
  | .list _ => true
  | _ => false
def isTuple : T → Bool
  | .tuple _ => true
  | _ => false
def isDict : T → Bool
  | .dict _ => true
  | _ => false
def isTL : T → Bool
  | .tuple _ => true
  | .list _ => true
  | _ => false
theorem k_int (t : T) : kitB (kindT t) "int" = some (isInt t) := by cases t <;> (simp only [kindT, isInt]; decide +kernel)
theorem k_bool (t : T) : kitB (kindT t) "bool" = some (isBool t) := by cases t <;> (simp only [kindT, isBool]; decide +kernel)
theorem k_str (t : T) : kitB (kindT t) "str" = some (isStr t) := by cases t <;> (simp only [kindT, isStr]; decide +kernel)
theorem k_list (t : T) : kitB (kindT t) "list" = some (isList t) := by cases t <;> (simp only [kindT, isList]; decide +kernel)
theorem k_tuple (t : T) : kitB (kindT t) "tuple" = some (isTuple t) := by cases t <;> (simp only [kindT, isTuple]; decide +kernel)
theorem sqL_ty {K : PySem.W.Frag} {H : Hp} {p : Addr} {xs : List V} (h : SqL K H p xs) : TyX K H (.ref p) (.type "list") := by
  rcases h with h | ⟨o, its, n, hk, hc, _⟩
  · rcases h with h | ⟨o, h⟩
    · exact .base (.lst h)
    · exact .base (.frz h)
  · exact .kList hk hc
theorem sqT_ty {K : PySem.W.Frag} {H : Hp} {p : Addr} {xs : List V} (h : SqT K H p xs) : TyX K H (.ref p) (.type "tuple") := by
  rcases h with h | ⟨o, its, n, hk, hc, _⟩
  · rcases h with h | ⟨o, h⟩
    · exact .base (.tup h)
    · exact .fTuple h
  · exact .kTuple hk hc
theorem dpo_ty {K : PySem.W.Frag} {F H : Hp} {x : V} {t : T} (ff : ∀ a o, F a = some o → H a = some o) (d : DpO K F H x t) : TyX K H x (.type (kindT t)) := by
  cases t with
  | list ts => obtain ⟨p, xs, rfl, h, _⟩ := d; exact sqL_ty h
  | none => cases d; exact .base .non
  | bool _ => cases d; exact .base (.bl _)
  | int _ => cases d; exact .base (.int _)
  | str _ => cases d; exact .base (.str _)
  | tuple _ => cases d with | tup h _ => exact sqT_ty (tupS ff h)
  | dict _ => cases d with | dct h _ => exact .base (.dT (ff _ _ h))
section
variable {X : Cx} {W : WX} {a b c : Expr} {ma mb mc : SemE} {pos : Pos}
def eIsi (f : T → Bool) (m : SemE) : SemE := fun e => (m e).bind fun r e1 => match r.val e1 with
  | some t => .ok (.r (.bool (f t))) e1
  | none => .bad
theorem isi_read {K : PySem.W.Frag} {f : T → Bool} {m : SemE} {σ : Sg} {H : Hp} {Q : VK} (h : tE K W (eIsi f m) σ H Q) :
    tE K W m σ H fun x H1 => ∃ t, TyX K H1 x (.type (kindT t)) ∧ Q (.bl (f t)) H1 ∧ ∀ y p, H1 p = none → TyX K (upd H1 p (.tup y)) x (.type (kindT t)) ∧ Q (.bl (f t)) (upd H1 p (.tup y)) := by
  obtain ⟨e, F, R, h⟩ := h
  refine tX_imp (tX_bind (rel := fun σ => OdR K σ) R .refl h) fun x H1 ⟨r, e1, F1, R1, S1, O1, h1⟩ => ?_
  cases q : r.val e1 with
  | none => simp only [q] at h1; exact h1.elim
  | some t =>
    simp only [q] at h1
    have d := val_ok R1 O1 q
    refine ⟨t, dpo_ty R1.sub d, h1 _ F1 H1 R1 S1 (.bl _), fun y p hp => ?_⟩
    have R2 := laid_own (o := .tup y) R1 hp
    have S2 := laid_own_step (e := e1) (σ := σ) (F := F1) (o := .tup y) hp
    have d2 : DpO K F1 (upd H1 p (.tup y)) x t := by
      cases t with
      | list ts => obtain ⟨q, xs, rfl, h, z⟩ := d; exact ⟨q, xs, rfl, sqL_mono (fun a o w => by rw [upd_ne (ne_of_none w hp)]; exact w) h, z⟩
      | _ => exact d
    exact ⟨dpo_ty R2.sub d2, h1 _ F1 _ R2 (S1.trans S2) (.bl _)⟩
theorem qisi {n : Str} {T' : String} {f : T → Bool} {p p2 : Pos} (hk : ∀ t, kitB (kindT t) T' = some (f t)) (hg : Gl X "isinstance") (hm : X.mg "isinstance" = none) (hgn : Gl X n) (hmn : X.mg n = none) (hv : bootBuiltins n = some (.type T')) (ha : QE X W a ma)
    (hn : n ≠ "__name__" := by decide) (hd : (n == ("__debug__" : Str)) = false := by decide)
    (he : starEach [a, .Name n p2] X.env = (false, eval a X.env) :: starEach [.Name n p2] X.env := by rfl) (he2 : starEach [.Name n p2] X.env = [(false, eval (.Name n p2) X.env)] := by rfl) (hpl : (backTo pos (starEach [.Name n p2] X.env)).any (·.1) = false := by rfl) :
    QE X W (.Call (.Name "isinstance" p) [a, .Name n p2] [] pos) (eIsi f ma) := by
  refine pe_mono (pe_callB call_isi hg hm (by decide +kernel) (pa_cons ha (pa_cons (pe_bltn hgn hmn hv (v := .ty T') rfl hn hd) pa_nil he2) he) (by decide) (by decide) he hpl) fun σ H Q h => ?_
  refine tX_imp (isi_read h) fun x H1 ⟨t, ty, q, _⟩ => ?_
  exact ⟨x, .ty T', _, .type T', f t, rfl, .ty T', ty, kit_ty (hk t), q⟩
/-! ### slices -/
abbrev SemP := En → Out (Option Int)
abbrev QP (X : Cx) (W : WX) (ex : Option Expr) (m : SemP) : Prop := PO X ex (tX X.K W (fun _ _ _ _ (x : Option Int) r => x = r) m)
theorem po_mono {ex : Option Expr} {t t' : TO} (h : PO X ex t) (m : ∀ σ H Q, t' σ H Q → t σ H Q) : PO X ex t' := ⟨fun pins s σ H Q I q => h.run pins s σ H Q I (m σ H Q q)⟩
def pNo : SemP := fun e => .ok none e
def pSo (m : SemE) : SemP := fun e => (m e).bind fun r e1 => match r.val e1 with
  | some (.int i) => .ok (some i) e1
  | _ => .bad
theorem qpn : QP X W none pNo := po_mono po_none fun σ H Q ⟨e, F, R, h⟩ => h _ F H R .refl rfl
theorem qps (ha : QE X W a ma) : QP X W (some a) (pSo ma) := by
  refine po_mono (po_some ha) fun σ H Q h => ?_
  obtain ⟨e, F, R, h⟩ := h
  refine tX_imp (tX_bind (rel := fun σ => OdR X.K σ) R .refl h) fun x H1 ⟨r, e1, F1, R1, S1, O1, h1⟩ => ?_
  cases q : r.val e1 with
  | none => simp only [q] at h1; exact h1.elim
  | some t =>
    have d := val_ok R1 O1 q
    cases t with
    | int i => simp only [q] at h1; cases d; exact ⟨i, rfl, h1 _ F1 H1 R1 S1 rfl⟩
    | none => simp only [q] at h1; exact h1.elim
    | bool _ => simp only [q] at h1; exact h1.elim
    | str _ => simp only [q] at h1; exact h1.elim
    | list _ => simp only [q] at h1; exact h1.elim
    | tuple _ => simp only [q] at h1; exact h1.elim
    | dict _ => simp only [q] at h1; exact h1.elim
def cutT {α : Type} (xs : List α) (lo hi : Option Int) : List α := (xs.drop (HT.sIx xs.length 0 lo)).take (HT.sIx xs.length xs.length hi - HT.sIx xs.length 0 lo)
def eSl (m : SemE) (lo hi : SemP) : SemE := fun e => (m e).bind fun r e1 => (lo e1).bind fun l e2 => (hi e2).bind fun h e3 => match r.val e3 with
  | some (.list ts) => .ok (.b (.l (cutT ts l h))) e3
  | some (.tuple ts) => .ok (.r (.tuple (cutT ts l h))) e3
  | _ => .bad
theorem cut_dp {K : PySem.W.Frag} {F : Hp} {ts : List T} {xs : List V} {l h : Option Int} (d : DpAll K F xs ts) : DpAll K F (cutV xs l h) (cutT ts l h) := by
  unfold cutV cutT
  rw [dpAll_len d]
  exact dpAll_take _ (dpAll_drop _ d)
theorem qsl {lo hi : Option Expr} {ml mh : SemP} {p2 : Pos} (ha : QE X W a ma) (hl : QP X W lo ml) (hu : QP X W hi mh) : QE X W (.Subscript a (.Slice lo hi none p2) pos) (eSl ma ml mh) := by
  refine pe_mono (pe_slice (SlR.or sl_list sl_tupA) ha hl hu) fun σ H Q h => ?_
  obtain ⟨e, F, R, h⟩ := h
  refine tX_imp (tX_bind (rel := fun σ => OdR X.K σ) R .refl h) fun x H1 ⟨r, e1, F1, R1, S1, O1, h1⟩ => ?_
  refine tX_imp (tX_bind (rel := fun _ _ _ _ (x : Option Int) r => x = r) R1 S1 h1) fun l H2 ⟨l', e2, F2, R2, S2, El, h2⟩ => ?_
  refine tX_imp (tX_bind (rel := fun _ _ _ _ (x : Option Int) r => x = r) R2 (S1.trans S2) h2) fun u H3 ⟨u', e3, F3, R3, S3, Eu, h3⟩ => ?_
  subst El Eu
  have S' := (S1.trans S2).trans S3
  have O3 := od_stay O1 (fun p hp => fresh_not_own R S1 hp) (S2.trans S3)
  cases q : r.val e3 with
  | none => simp only [q] at h3; exact h3.elim
  | some t =>
    have d := val_ok R3 O3 q
    cases t with
    | list ts =>
      simp only [q] at h3
      obtain ⟨p, xs, rfl, hs, dd⟩ := d
      exact .inl ⟨p, xs, rfl, hs, fun p hp => (fin_of R3 S' h3 True.intro : Fin X.K F3 H3 Q (.b (.l _))) p _ hp (cut_dp dd)⟩
    | tuple ts =>
      simp only [q] at h3
      have fin := (fin_of R3 S' h3 True.intro : Fin X.K F3 H3 Q (.r (.tuple _)))
      have d0 : Dp X.K F3 x (.tuple ts) := d
      cases d with
      | tup hs dd =>
        refine .inr ⟨_, _, rfl, tupS R3.sub hs, fun w => ?_, fun _ p hp => fin.2 _ p _ rfl hp (cut_dp dd)⟩
        refine fin.1 _ ?_
        have e : cutT ts l u = ts := by
          unfold cutT
          rw [← dpAll_len dd, w.1, w.2, dpAll_len dd]
          simp
        rw [e]; exact d0
    | none => simp only [q] at h3; exact h3.elim
    | bool _ => simp only [q] at h3; exact h3.elim
    | str _ => simp only [q] at h3; exact h3.elim
    | int _ => simp only [q] at h3; exact h3.elim
    | dict _ => simp only [q] at h3; exact h3.elim
end
/-! ### xs[::-1] of a list and of a tuple -/
section
variable {prog : Program} {w : World} {A : Around} {E : Value → Shared → Prop} {s : Shared}
theorem dpAll_rev {K : PySem.W.Frag} {F : Hp} : ∀ {ts : List T} {xs : List V}, DpAll K F xs ts → DpAll K F xs.reverse ts.reverse
  | [], _, h => by cases h; exact .nil
  | _ :: _, _, h => by cases h with | cons a b => rw [List.reverse_cons, List.reverse_cons]; exact dpAll_app (dpAll_rev b) (.cons a .nil)
end
end Ev
namespace Ev
open PySem PySem.Spec PyProof.Rows L2 HT
section
variable {prog : Program} {w : World} {A : Around} {E : Value → Shared → Prop} {s : Shared}
theorem adjust_rev (n : Nat) : Builtin.Slice.sliceAdjust none none (-1) (n : Int) = ((n : Int) - 1, -1) := by
  unfold Builtin.Slice.sliceAdjust
  have h1 : ((-1 : Int) < 0) := by omega
  simp only [h1, if_true]
theorem places_rev (n : Nat) : Builtin.Slice.slicePlaces ((n : Int) - 1) (-1) (-1) = n := by
  unfold Builtin.Slice.slicePlaces
  have h1 : ¬ ((-1 : Int) > 0) := by omega
  have h2 : (- -1 : Int) = 1 := by decide
  simp only [h1, if_false, h2, Int.ediv_one]
  split <;> omega
theorem applied_rev {sl : Addr} {vl vu vs : Value} {n : Nat} {Q : Int × Int × Nat → Shared → Prop} (hs : s.heap.IsSliceOf sl vl vu vs) (pl : IsPart vl none) (pu : IsPart vu none) (ps : IsPart vs (some (-1)))
    (h : Q ((n : Int) - 1, -1, n) s) : wpAny (model prog w) A (Builtin.Slice.sliceApplied (.ref sl) (pure (n : Int))) Q E s := by
  obtain ⟨os, hos, hcs, hds⟩ := id hs
  unfold Builtin.Slice.sliceApplied Builtin.Slice.sliceFields
  refine wpAny_bind (wpAny_bind (wpAny_field hos hds (x := vl) rfl (wpAny_bind (wpAny_field hos hds (x := vu) rfl (wpAny_bind (wpAny_field hos hds (x := vs) rfl (wpAny_pure ?_)))))))
  refine wpAny_bind (slicePart_ ps ?_)
  show wpAny _ _ (if ((-1 : Int) == 0) = true then _ else _) _ _ s
  rw [if_neg (by decide)]
  refine wpAny_bind (slicePart_ pl (wpAny_bind (slicePart_ pu (wpAny_bind (wpAny_pure ?_)))))
  show wpAny _ _ (match Builtin.Slice.sliceAdjust none none (-1) (n : Int) with | (lo, hi) => pure (lo, (-1 : Int), Builtin.Slice.slicePlaces lo hi (-1))) _ _ s
  rw [adjust_rev n]
  show wpAny _ _ (pure ((n : Int) - 1, (-1 : Int), Builtin.Slice.slicePlaces ((n : Int) - 1) (-1) (-1))) _ _ s
  rw [places_rev]
  exact wpAny_pure h
theorem pick_rev (xs : Array Value) : ((List.range xs.size).filterMap fun (m : Nat) => xs[((xs.size : Int) - 1 + (m : Int) * (-1)).toNat]?).toArray = xs.toList.reverse.toArray := by
  have e : (fun (m : Nat) => xs[((xs.size : Int) - 1 + (m : Int) * (-1)).toNat]?) = fun m => xs[xs.size - 1 - m]? := by
    funext m
    have : ((xs.size : Int) - 1 + (m : Int) * (-1)).toNat = xs.size - 1 - m := by omega
    rw [this]
  rw [e]
  congr 1
  have h1 := PySem.W.krv_range xs.size
  have h2 : (List.range xs.size).filterMap (fun m => xs[xs.size - 1 - m]?) = ((List.range xs.size).map (fun k => xs.size - 1 - k)).filterMap (fun j => xs[j]?) := by rw [List.filterMap_map]; rfl
  rw [h2, h1, List.filterMap_reverse, PySem.W.krv_all]
theorem getItem_tuple_rev {t sl : Addr} {items : Array Value} {vl vu vs : Value} {Q : Value → Shared → Prop} (ht : IsTup s.heap t items) (hs : s.heap.IsSliceOf sl vl vu vs) (pl : IsPart vl none) (pu : IsPart vu none) (ps : IsPart vs (some (-1)))
    (h : Q (.ref s.heap.objs.size) { s with heap := s.heap.push { cls := .type "tuple", data := .seq items.toList.reverse.toArray } })
    (hsz : items.size ≤ sizeLine) : wpAny (model prog w) A (getItem (.ref t) (.ref sl)) Q E s := by
  have htake : sizeOk (.seq items.toList.reverse.toArray) := by
    show items.toList.reverse.toArray.size ≤ sizeLine
    rw [List.size_toArray, List.length_reverse, Array.length_toList]
    omega
  obtain ⟨os, hos, hcs, hds⟩ := id hs
  have hTs : s.TypeIs (.ref sl) "slice" := ⟨os, hos, hcs⟩
  unfold getItem
  try with_reducible refine wpAny_holding ?_
  first | refine wpAny_bind (wpAny_pure ?_) | skip
  refine wpAny_bind (wpAny_sequenceKey ht.typeIs (by decide) ?_)
  refine wpAny_bind (wpAny_callSpecial?_slot (name := Str.ofString "__getitem__") ht.typeIs PyProof.Rows.slot_tuple_getitem
    (wpAny_call_entry PyProof.Rows.slot_tuple_getitem ht.typeIs entry_tuple_getitem ?_ (args_tuple_getitem _ _)))
  show wpAny _ _ (Builtin.Tuple.tupleItemsOf (.ref t) >>= _) _ _ s
  refine wpAny_bind (tupleItemsOf_ ht ?_)
  refine wpAny_bind (wpAny_typeOf hTs ?_)
  rw [if_pos (by decide)]
  refine wpAny_bind (applied_rev (n := items.size) hs pl pu ps ?_)
  have hno : ¬ ((((items.size : Nat) : Int) - 1 == 0 && (-1 : Int) == 1 && items.size == items.size) = true) := by simp
  show wpAny _ _ (if ((((items.size : Nat) : Int) - 1 == 0 && (-1 : Int) == 1 && items.size == items.size) = true) then _ else _) _ _ s
  rw [if_neg hno, pick_rev]
  first
    | exact wpAny_bind (m := Builtin.Tuple.tupleExact _) (wpAny_newObj_type (wpAny_pure ⟨_, rfl, wpAny_pure h⟩) htake)
    | exact wpAny_bind (m := Builtin.Tuple.tupleExact _) (wpAny_newObj_type (wpAny_bind (wpAny_pure (wpAny_pure ⟨_, rfl, wpAny_pure h⟩))) htake)
    | exact wpAny_bind (wpAny_bind (m := Builtin.Tuple.tupleExact _) (wpAny_newObj_type (wpAny_pure (wpAny_pure ⟨_, rfl, wpAny_pure h⟩)) htake))
    | exact wpAny_bind (wpAny_bind (m := Builtin.Tuple.tupleExact _) (wpAny_newObj_type (wpAny_pure ⟨_, rfl, wpAny_pure h⟩) htake))
end
section
variable {X : Cx} {W : WX} {a : Expr} {ma : SemE} {pos : Pos}
def tRev2 (K : PySem.W.Frag) (te : TE) : TE := fun σ H Q => te σ H fun x H1 => ∃ a xs, x = .ref a ∧ ((SqL K H1 a xs ∧ ∀ p, H1 p = none → Q (.ref p) (upd H1 p (.lst xs.reverse))) ∨ (SqT K H1 a xs ∧ ∀ p, H1 p = none → Q (.ref p) (upd H1 p (.tup xs.reverse))))
theorem pe_rev2 {e : Expr} {te : TE} {k : Nat} {p1 p2 p3 pos : Pos} (he : PE X e te) : PE X (.Subscript e (.Slice none none (some (.UnaryOp .USub (.Constant (.int 1) k p1) p2)) p3) pos) (tRev2 X.K te) := by
  refine ⟨fun pins s σ H Q I h => ?_⟩
  refine Subscript_ (thn (he.run pins s σ H _ I h) fun v s1 ⟨x, H1, I1, r1, q1⟩ => ?_)
  obtain ⟨a, xs, ex, q1⟩ := q1
  subst ex
  cases r1
  have hst : PO X (some (.UnaryOp .USub (.Constant (.int 1) k p1) p2)) (tPart (tUn (rU fun i => .int (-i)) (tC (.int 1)))) := po_some (pe_un un_neg pe_int)
  refine wpAny_Slice (thn (po_none.run pins s1 σ H1 (fun o H2 => o = none ∧ H2 = H1) I1 ⟨rfl, rfl⟩) fun vl s2 ⟨l, H2, I2, pl, el, e2⟩ => ?_)
  subst el e2
  refine thn (po_none.run pins s2 σ H2 (fun o H3 => o = none ∧ H3 = H2) I2 ⟨rfl, rfl⟩) fun vu s3 ⟨u, H3, I3, pu, eu, e3⟩ => ?_
  subst eu e3
  refine thn (hst.run pins s3 σ H3 (fun o H4 => o = some (-1) ∧ H4 = H3) I3 ⟨1, rfl, -1, rfl, rfl, rfl⟩) fun vs s4 ⟨o, H4, I4, ps, eo, e4⟩ => ?_
  subst eo e4
  have I5 : Inv X pins σ H4 { s4 with heap := s4.heap.push { cls := .type "slice", data := .fields #[vl, vu, vs] } } := I4.kept (t' := s4.toks) fun b ob q => Heap.get?_push_of_some _ q
  show wpAny (model X.prog X.w) X.A (subscriptTail e (.Slice none none (some (.UnaryOp .USub (.Constant (.int 1) k p1) p2)) p3) (.ref a) (.ref s4.heap.objs.size)) (EP X pins σ Q) X.xe { s4 with heap := s4.heap.push { cls := .type "slice", data := .fields #[vl, vu, vs] } }
  rcases q1 with ⟨hx, q⟩ | ⟨hx, q⟩
  · obtain ⟨its, r, ht, hz⟩ := I5.list hx
    have hlen := r.length
    refine tail_any (ops := [.ref a, .ref s4.heap.objs.size]) ht.isList.typeIs (PySem.slot_list_getitem.lookup) ?_ (by with_unfolding_all rfl)
    refine wpAny_getItem_list_slice ht.isList (Heap.IsSliceOf.new _ vl vu vs) pl pu ps (by decide) ?_ (by rw [List.size_toArray]; omega)
    rw [PySem.W.krv_pick]
    refine ⟨.ref _, _, I5.laid (t' := s4.toks) (o := .lst xs.reverse) (fun b ob q => Heap.get?_push_of_some _ q) (Nat.le_refl _) ?_, rfl, q _ (I5.hok.fresh (Nat.le_refl _))⟩
    exact ⟨by rw [List.length_reverse]; exact hz, _, 0, r.reverse, Heap.get?_push_size _ rfl⟩
  · obtain ⟨its, r, ht, hz⟩ := I5.tuple hx
    have hlen := r.length
    refine tail_any (ops := [.ref a, .ref s4.heap.objs.size]) ht.typeIs (PyProof.Rows.slot_tuple_getitem.lookup) ?_ (by with_unfolding_all rfl)
    refine getItem_tuple_rev ht (Heap.IsSliceOf.new _ vl vu vs) pl pu ps ?_ (by rw [List.size_toArray]; omega)
    refine ⟨.ref _, _, I5.laid (t' := s4.toks) (o := .tup xs.reverse) (fun b ob q => Heap.get?_push_of_some _ q) (Nat.le_refl _) ?_, rfl, q _ (I5.hok.fresh (Nat.le_refl _))⟩
    exact ⟨by rw [List.length_reverse]; exact hz, _, r.reverse, IsTup.new _ _⟩
def eRev (m : SemE) : SemE := fun e => (m e).bind fun r e1 => match r.val e1 with
  | some (.list ts) => .ok (.b (.l ts.reverse)) e1
  | some (.tuple ts) => .ok (.r (.tuple ts.reverse)) e1
  | _ => .bad
theorem qrev {k : Nat} {p1 p2 p3 : Pos} (ha : QE X W a ma) : QE X W (.Subscript a (.Slice none none (some (.UnaryOp .USub (.Constant (.int 1) k p1) p2)) p3) pos) (eRev ma) := by
  refine pe_mono (pe_rev2 ha) fun σ H Q h => ?_
  obtain ⟨e, F, R, h⟩ := h
  refine tX_imp (tX_bind (rel := fun σ => OdR X.K σ) R .refl h) fun x H1 ⟨r, e1, F1, R1, S1, O1, h1⟩ => ?_
  cases q : r.val e1 with
  | none => simp only [q] at h1; exact h1.elim
  | some t =>
    have d := val_ok R1 O1 q
    cases t with
    | list ts =>
      simp only [q] at h1
      obtain ⟨p, xs, rfl, hs, dd⟩ := d
      exact ⟨p, xs, rfl, .inl ⟨hs, fun p hp => (fin_of R1 S1 h1 True.intro : Fin X.K F1 H1 Q (.b (.l _))) p _ hp (dpAll_rev dd)⟩⟩
    | tuple ts =>
      simp only [q] at h1
      cases d with
      | tup hs dd => exact ⟨_, _, rfl, .inr ⟨tupS R1.sub hs, fun p hp => (fin_of R1 S1 h1 True.intro : Fin X.K F1 H1 Q (.r (.tuple _))).2 _ p _ rfl hp (dpAll_rev dd)⟩⟩
    | none => simp only [q] at h1; exact h1.elim
    | bool _ => simp only [q] at h1; exact h1.elim
    | str _ => simp only [q] at h1; exact h1.elim
    | int _ => simp only [q] at h1; exact h1.elim
    | dict _ => simp only [q] at h1; exact h1.elim
end
end Ev

set_option Elab.async false
set_option linter.all false
set_option maxRecDepth 100000
namespace Ev
open PySem PySem.Spec PyProof.Rows L2
section
variable {K : PySem.W.Frag} {W : WX} {e e1 : En} {σ : Sg} {F H : Hp}
/-- what a name alone holds is changed -/
theorem upd_own {i : Nat} {l : Bool} {z : Bx} {ts' : List T} {p : Addr} {xs' : List V} (R : Rel K e σ F H) (h1 : e[i]? = some (.ow l z)) (h2 : σ[i]? = some (some (.ref p))) (d : DpAll K F xs' ts') :
    Rel K (e.set i (.ow l (.l ts'))) σ F (upd H p (.lst xs')) ∧ Step e (e.set i (.ow l (.l ts'))) σ F H F (upd H p (.lst xs')) := by
  have hi : i < e.length := (List.getElem?_eq_some_iff.mp h1).1
  have ow : Own e σ p := ⟨i, l, z, h1, h2⟩
  have hf := (R.owned ow).1
  have get : ∀ (j : Nat) (s : Sl), (e.set i (.ow l (.l ts')))[j]? = some s → (j = i ∧ s = .ow l (.l ts')) ∨ (i ≠ j ∧ e[j]? = some s) := fun j s h => by
    by_cases q : i = j
    · subst q; rw [List.getElem?_set_self hi] at h; cases h; exact .inl ⟨rfl, rfl⟩
    · rw [List.getElem?_set_ne q] at h; exact .inr ⟨q, h⟩
  have kind : ∀ (j : Nat) (l' : Bool) (b' : Bx), (e.set i (.ow l (.l ts')))[j]? = some (.ow l' b') → ∃ b, e[j]? = some (.ow l' b) := fun j l' b' h => by
    rcases get j _ h with ⟨rfl, q⟩ | ⟨_, q⟩
    · cases q; exact ⟨z, h1⟩
    · exact ⟨b', q⟩
  refine ⟨⟨fun a o h => ?_, by simp [R.len], fun j s o g1 g2 => ?_, fun j j' l1 b1 l2 b2 q g1 g2 g3 g4 => ?_⟩, ⟨fun _ _ h => h, fun a o h n => ?_, fun a o h => ?_, fun a ⟨j, l', b', g1, g2⟩ => ?_, fun j hj => ?_, kind⟩⟩
  · rw [upd_ne (ne_of_none h hf)]; exact R.sub _ _ h
  · rcases get j s g1 with ⟨rfl, rfl⟩ | ⟨q, g⟩
    · rw [h2] at g2; cases g2; exact ⟨p, rfl, hf, xs', upd_same, d⟩
    · have w := R.at_ j s o g g2
      cases s with
      | un => trivial
      | v t => exact w
      | fz b => exact w
      | ow l' b =>
        obtain ⟨p', ep, hf', bx⟩ := w
        subst ep
        have np : p' ≠ p := fun w => by subst w; exact q (R.ne i j l z l' b p' h1 g h2 g2)
        exact ⟨p', rfl, hf', bx_keep bx (fun _ _ h => h) fun o' h' => by rw [upd_ne np]; exact h'⟩
  · obtain ⟨b1', q1⟩ := kind j _ _ g1
    obtain ⟨b2', q2⟩ := kind j' _ _ g2
    exact R.ne j j' _ _ _ _ q q1 q2 g3 g4
  · have np : a ≠ p := fun w => n (by subst w; exact ow)
    exact ⟨by rw [upd_ne np]; exact h, fun w => w⟩
  · by_cases q : a = p
    · subst q; exact ⟨_, upd_same⟩
    · exact ⟨o, by rw [upd_ne q]; exact h⟩
  · obtain ⟨b, q⟩ := kind j _ _ g1
    exact ⟨j, l', b, q, g2⟩
  · obtain ⟨b', q⟩ := hj
    by_cases ij : i = j
    · subst ij
      rw [h1] at q
      rcases q with q | q
      · cases q; exact ⟨_, .inl (List.getElem?_set_self hi)⟩
      · cases q
    · exact ⟨b', by rw [List.getElem?_set_ne ij]; exact q⟩
end
/-- a method that changes a list, met by g -/
def MutDoes (K : PySem.W.Frag) (r : V → List V → Hp → VK → Prop) (g : List T → List T → Option (List T × T)) : Prop :=
  ∀ (p : Addr) (xs vs : List V) (ts us : List T) (ts' : List T) (w : T) (F H : Hp) (Q : VK), H p = some (.lst xs) → DpAll K F xs ts → DpAll K F vs us → g ts us = some (ts', w) →
    (∀ xs' v, DpAll K F xs' ts' → Dp K F v w → Q v (upd H p (.lst xs'))) → r (.ref p) vs H Q
def eMut (i : Nat) (g : List T → List T → Option (List T × T)) (ma : SemA) : SemE := fun e => match e[i]? with
  | some (.ow _ (.l _)) => (ma e).bind fun rs e1 => (match escs rs e1 with
    | some (us, e2) => (match e2[i]? with
      | some (.ow l (.l ts)) => (match g ts us with
        | some (ts', w) => .ok (.r w) (e2.set i (.ow l (.l ts')))
        | none => .bad)
      | _ => .bad)
    | none => .bad)
  | _ => .bad
section
variable {X : Cx} {W : WX} {a b c : Expr} {ma mb mc : SemE} {pos : Pos}
theorem mut_read {K : PySem.W.Frag} {i : Nat} {r : V → List V → Hp → VK → Prop} {g : List T → List T → Option (List T × T)} {m : SemA} (hr : MutDoes K r g) {σ : Sg} {H : Hp} {Q : VK} (h : tE K W (eMut i g m) σ H Q) :
    ∃ p, σ[i]? = some (some (.ref p)) ∧ (∃ xs, SqL K H p xs) ∧ tA K W m σ H fun vs H2 => r (.ref p) vs H2 Q := by
  obtain ⟨e, F, R, h⟩ := h
  simp only [eMut] at h
  cases q : e[i]? with
  | none => rw [q] at h; exact h.elim
  | some s =>
    rw [q] at h
    cases s with
    | un => exact h.elim
    | v _ => exact h.elim
    | fz _ => exact h.elim
    | ow l z =>
      cases z with
      | d _ => exact h.elim
      | m _ => exact h.elim
      | n _ => exact h.elim
      | l ts0 =>
        simp only at h
        obtain ⟨o, hs, p, ep, hf, xs0, hx0, d0⟩ := R.var q
        subst ep
        refine ⟨p, hs, ⟨xs0, SqL.of hx0⟩, ?_⟩
        refine tX_imp (tX_bind (rel := fun σ Hs F H xs rs => OdsR K σ Hs F H rs xs) R .refl h) fun vs H1 ⟨rs, e1, F1, R1, S1, O1, h1⟩ => ?_
        cases q1 : escs rs e1 with
        | none => simp only [q1] at h1; exact h1.elim
        | some te =>
          obtain ⟨us, e2⟩ := te
          simp only [q1] at h1
          obtain ⟨F2, R2, S2, d2, _⟩ := escs_ok R R1 S1 O1 q1
          cases q2 : e2[i]? with
          | none => rw [q2] at h1; exact h1.elim
          | some s2 =>
            rw [q2] at h1
            cases s2 with
            | un => exact h1.elim
            | v _ => exact h1.elim
            | fz _ => exact h1.elim
            | ow l2 z2 =>
              cases z2 with
              | d _ => exact h1.elim
              | m _ => exact h1.elim
              | n _ => exact h1.elim
              | l ts =>
                simp only at h1
                obtain ⟨p', ep, hf2, xs, hx, d⟩ := R2.at_ i _ _ q2 hs
                cases ep
                cases q3 : g ts us with
                | none => rw [q3] at h1; exact h1.elim
                | some tw =>
                  obtain ⟨ts', w⟩ := tw
                  rw [q3] at h1
                  refine hr p xs vs ts us ts' w F2 H1 Q hx d d2 q3 fun xs' v d' dw => ?_
                  obtain ⟨R3, S3⟩ := upd_own R2 q2 hs d'
                  exact h1 v F2 _ R3 (S2.trans S3) dw
theorem qmeth {i : Nat} {x name : Str} {p apos cpos : Pos} {id : String} {r : V → List V → Hp → VK → Prop} {g : List T → List T → Option (List T × T)} {m : SemA} {es : List Expr} (slot : Slot "list" name id) (hty : typeOf (.builtin id) = pure (.type "method_descriptor")) (hm : MtR X id r) (hr : MutDoes X.K r g)
    (hN : X.N[i]? = some x) (hv : Vis X.env.scope x) (ha : QA X W (a :: es) m) (hd : (x == ("__debug__" : Str)) = false := by decide) (hcd : (x == ("__classdict__" : Str)) = false := by decide)
    (hbase : attributeBase (.Name x p) name X.env (eval (.Name x p) X.env) = eval (.Name x p) X.env := by rfl)
    (hfew : ((backTo cpos (starEach (a :: es) X.env)).all (fun x => !x.1) && (backToKw cpos (keywordEach [] X.env)).all (fun x => x.1.isSome)
      && decide ((a :: es).length + ([] : List Keyword).length + (if ([] : List Keyword).isEmpty then 0 else 1) < 30)) = true := by rfl)
    (hline : (apos.endLine == cpos.line) = true := by rfl) (hs : starEach (a :: es) X.env = (false, eval a X.env) :: starEach es X.env := by rfl) (hplain : (backTo cpos (starEach es X.env)).any (·.1) = false := by rfl) :
    QE X W (.Call (.Attribute (.Name x p) name apos) (a :: es) [] cpos) (eMut i g m) :=
  pe_mono (pe_bm PySem.F.plainAttrs_list slot hty hm (pe_var hN hv hd hcd) ha hbase hfew hline hs hplain) fun σ H Q h => by
    obtain ⟨p, hs, hl, h⟩ := mut_read hr h
    exact ⟨_, hs, .inl ⟨rfl, hl⟩, h⟩
/-! ### the methods -/
def gAppend (ts us : List T) : Option (List T × T) := match us with
  | [u] => if ts.length < sizeLine then some (ts ++ [u], .none) else none
  | _ => none
theorem does_append {K : PySem.W.Frag} : MutDoes K rAppend gAppend := by
  intro p xs vs ts us ts' w F H Q hx d dv hg q
  cases dv with
  | nil => cases hg
  | cons a dv =>
    cases dv with
    | cons _ _ => cases hg
    | nil =>
      simp only [gAppend] at hg
      split at hg
      · rename_i hl; cases hg
        exact ⟨p, xs, _, rfl, rfl, hx, by rw [dpAll_len d]; exact hl, q _ _ (dpAll_app d (.cons a .nil)) .non⟩
      · cases hg
def gInsert (ts us : List T) : Option (List T × T) := match us with
  | [.int i, u] => if ts.length < sizeLine ∧ 0 ≤ i ∧ i < 2 ^ 63 then some (ts.take i.toNat ++ [u] ++ ts.drop i.toNat, .none) else none
  | _ => none
theorem does_insert {K : PySem.W.Frag} : MutDoes K (fun x vs H Q => ∃ (l : Addr) (xs : List V) (i : Int) (y : V), x = .ref l ∧ vs = [.int i, y] ∧ H l = some (.lst xs) ∧ xs.length < sizeLine ∧ 0 ≤ i ∧ i < 2 ^ 63 ∧
    Q .non (upd H l (.lst (xs.take i.toNat ++ [y] ++ xs.drop i.toNat)))) gInsert := by
  intro p xs vs ts us ts' w F H Q hx d dv hg q
  cases dv with
  | nil => cases hg
  | cons a dv =>
    cases dv with
    | nil => cases a <;> cases hg
    | cons b dv =>
      cases dv with
      | cons _ _ => cases a <;> cases hg
      | nil =>
        cases a with
        | int i =>
          simp only [gInsert] at hg
          split at hg
          · rename_i hl; cases hg
            exact ⟨p, xs, i, _, rfl, rfl, hx, by rw [dpAll_len d]; exact hl.1, hl.2.1, hl.2.2, q _ _ (dpAll_app (dpAll_app (dpAll_take _ d) (.cons b .nil)) (dpAll_drop _ d)) .non⟩
          · cases hg
        | _ => cases hg
theorem dpAll_erase {K : PySem.W.Frag} {F : Hp} {ts : List T} {vs : List V} (k : Nat) (d : DpAll K F vs ts) : DpAll K F (vs.eraseIdx k) (ts.eraseIdx k) := by
  rw [List.eraseIdx_eq_take_drop_succ, List.eraseIdx_eq_take_drop_succ]
  exact dpAll_app (dpAll_take _ d) (dpAll_drop _ d)
def gPop (ts us : List T) : Option (List T × T) := match us with
  | [.int i] => if -(2 ^ 63) ≤ i ∧ i < 2 ^ 63 then (match seqIndex? i ts.length with
    | some k => (match ts[k]? with
      | some t => some (ts.eraseIdx k, t)
      | none => none)
    | none => none) else none
  | _ => none
theorem does_pop {K : PySem.W.Frag} : MutDoes K rPopAt gPop := by
  intro p xs vs ts us ts' w F H Q hx d dv hg q
  cases dv with
  | nil => cases hg
  | cons a dv =>
    cases dv with
    | cons _ _ => cases a <;> cases hg
    | nil =>
      cases a with
      | int i =>
        simp only [gPop] at hg
        split at hg
        · rename_i hl
          cases e : seqIndex? i ts.length with
          | none => rw [e] at hg; cases hg
          | some k =>
            simp only [e] at hg
            cases e2 : ts[k]? with
            | none => rw [e2] at hg; cases hg
            | some t =>
              rw [e2] at hg; cases hg
              obtain ⟨v, hv, dv⟩ := dpAll_get d e2
              exact ⟨p, xs, i, k, v, rfl, rfl, hx, hl.1, hl.2, by rw [dpAll_len d]; exact e, hv, q _ _ (dpAll_erase _ d) dv⟩
        · cases hg
      | _ => cases hg
/-! ### built-ins -/
end
/-- of one value; of two -/
def g1 (f : T → Option Od) : List T → Option Od
  | [t] => f t
  | _ => none
def g2 (f : T → T → Option Od) : List T → Option Od
  | [t, u] => f t u
  | _ => none
theorem doesN1 {K : PySem.W.Frag} {r : List V → Hp → VK → Prop} {f : T → Option Od} (h : ∀ (x : V) (t : T) (w : Od) (F H : Hp) (Q : VK), (∀ a o, F a = some o → H a = some o) → DpO K F H x t → f t = some w → Back w ∧ (Fin K F H Q w → r [x] H Q)) : DoesN K r (g1 f) := by
  intro xs ts w F H Q ff d hg
  cases d with
  | nil => cases hg
  | cons a d =>
    cases d with
    | nil => exact h _ _ w F H Q ff a hg
    | cons _ _ => cases hg
theorem doesN2 {K : PySem.W.Frag} {r : List V → Hp → VK → Prop} {f : T → T → Option Od} (h : ∀ (x y : V) (t u : T) (w : Od) (F H : Hp) (Q : VK), (∀ a o, F a = some o → H a = some o) → DpO K F H x t → DpO K F H y u → f t u = some w → Back w ∧ (Fin K F H Q w → r [x, y] H Q)) : DoesN K r (g2 f) := by
  intro xs ts w F H Q ff d hg
  cases d with
  | nil => cases hg
  | cons a d =>
    cases d with
    | nil => cases hg
    | cons b d =>
      cases d with
      | nil => exact h _ _ _ _ w F H Q ff a b hg
      | cons _ _ => cases hg
def fLen : T → Option Od
  | .list ts => some (.r (.int ts.length))
  | .tuple ts => some (.r (.int ts.length))
  | _ => none
abbrev gLen := g1 fLen
def rLen2 (K : PySem.W.Frag) : List V → Hp → VK → Prop := fun xs H Q => ∃ p ys, xs = [.ref p] ∧ (SqL K H p ys ∨ SqT K H p ys) ∧ Q (.int ys.length) H
theorem does_len {K : PySem.W.Frag} : DoesN K (rLen2 K) gLen := doesN1 fun x t w F H Q ff d hg => by
  cases t with
  | list ts =>
    cases hg
    obtain ⟨p, ys, rfl, h, dd⟩ := d
    exact ⟨trivial, fun q => ⟨p, ys, rfl, .inl h, by rw [dpAll_len dd]; exact q.1 _ (.int _)⟩⟩
  | tuple ts =>
    cases hg
    cases d with
    | tup h dd => exact ⟨trivial, fun q => ⟨_, _, rfl, .inr (tupS ff h), by rw [dpAll_len dd]; exact q.1 _ (.int _)⟩⟩
  | _ => cases hg
def fInt : T → Option Od
  | .int i => some (.r (.int i))
  | .bool k => some (.r (.int (if k then 1 else 0)))
  | _ => none
abbrev gInt := g1 fInt
theorem does_int {K : PySem.W.Frag} : DoesN K (fun xs H Q => (∃ i, xs = [.int i] ∧ Q (.int i) H) ∨ ∃ k, xs = [.bl k] ∧ Q (.int (if k then 1 else 0)) H) gInt := doesN1 fun x t w F H Q ff d hg => by
  cases t with
  | int i => cases hg; cases d; exact ⟨trivial, fun q => .inl ⟨i, rfl, q.1 _ (.int _)⟩⟩
  | bool i => cases hg; cases d; exact ⟨trivial, fun q => .inr ⟨i, rfl, q.1 _ (.int _)⟩⟩
  | _ => cases hg
def fAbs : T → Option Od
  | .int i => some (.r (.int (if i < 0 then -i else i)))
  | _ => none
abbrev gAbs := g1 fAbs
theorem does_abs {K : PySem.W.Frag} : DoesN K (fun xs H Q => ∃ i, xs = [.int i] ∧ Q (.int (if i < 0 then -i else i)) H) gAbs := doesN1 fun x t w F H Q ff d hg => by
  cases t with
  | int i => cases hg; cases d; exact ⟨trivial, fun q => ⟨i, rfl, q.1 _ (.int _)⟩⟩
  | _ => cases hg
abbrev gMax2 := g2 (gII (fun _ _ => true) fun i j => .int (if j > i then j else i))
abbrev gMin2 := g2 (gII (fun _ _ => true) fun i j => .int (if j < i then j else i))
theorem does2I {K : PySem.W.Frag} {c : Int → Int → Bool} {g : Int → Int → Int} : DoesN K (fun xs H Q => ∃ i j, xs = [.int i, .int j] ∧ Q (.int (g i j)) H) (g2 (gII c fun i j => .int (g i j))) := doesN2 fun x y t u w F H Q ff d d' hg => by
  cases t with
  | int i =>
    cases u with
    | int j =>
      simp only [gII] at hg
      split at hg
      · cases hg; cases d; cases d'; exact ⟨trivial, fun q => ⟨i, j, rfl, q.1 _ (.int _)⟩⟩
      · cases hg
    | _ => cases hg
  | _ => cases hg
theorem does_max2 {K : PySem.W.Frag} : DoesN K (fun xs H Q => ∃ i j, xs = [.int i, .int j] ∧ Q (.int (if j > i then j else i)) H) gMax2 := does2I
theorem does_min2 {K : PySem.W.Frag} : DoesN K (fun xs H Q => ∃ i j, xs = [.int i, .int j] ∧ Q (.int (if j < i then j else i)) H) gMin2 := does2I
abbrev gDivmod := g2 (gII (fun _ j => decide (0 < j ∧ j < 1073741824)) fun i j => .tuple [.int (i / j), .int (i % j)])
def fTuple : T → Option Od
  | .list ts => some (.r (.tuple ts))
  | .tuple ts => some (.r (.tuple ts))
  | _ => none
abbrev gTuple := g1 fTuple
theorem does_tuple {K : PySem.W.Frag} : DoesN K (fun xs H Q => ∃ p ys, xs = [.ref p] ∧ ((SqL K H p ys ∧ ∀ l, H l = none → Q (.ref l) (upd H l (.tup ys))) ∨ (SqT K H p ys ∧ Q (.ref p) H))) gTuple := doesN1 fun x t w F H Q ff d hg => by
  cases t with
  | list ts =>
    cases hg
    obtain ⟨p, ys, rfl, h, dd⟩ := d
    exact ⟨trivial, fun q => ⟨p, ys, rfl, .inl ⟨h, fun l hl => q.2 _ l _ rfl hl dd⟩⟩⟩
  | tuple ts =>
    cases hg
    have a0 : Dp K F x (.tuple ts) := d
    cases d with
    | tup h dd => exact ⟨trivial, fun q => ⟨_, _, rfl, .inr ⟨tupS ff h, q.1 _ a0⟩⟩⟩
  | _ => cases hg
def fList : T → Option Od
  | .list ts => some (.b (.l ts))
  | .tuple ts => some (.b (.l ts))
  | _ => none
abbrev gList := g1 fList
/-- the truths of a list -/
def bools : List T → Option (List Bool)
  | [] => some []
  | .bool b :: ts => (bools ts).map (b :: ·)
  | _ => none
theorem bools_dp {K : PySem.W.Frag} {F : Hp} : ∀ {ts : List T} {xs : List V} {bs : List Bool}, DpAll K F xs ts → bools ts = some bs → xs = bs.map V.bl
  | [], _, _, d, h => by cases d; cases h; rfl
  | t :: ts, _, _, d, h => by
    cases d with
    | cons a d =>
      cases t with
      | bool b =>
        cases a
        simp only [bools] at h
        cases q : bools ts with
        | none => rw [q] at h; cases h
        | some bs => rw [q] at h; cases h; rw [bools_dp d q]; rfl
      | _ => cases h
def fAll (k : List Bool → Bool) : T → Option Od
  | .list ts => (bools ts).map fun bs => .r (.bool (k bs))
  | _ => none
abbrev gAll := g1 (fAll fun bs => bs.all id)
theorem doesBs {K : PySem.W.Frag} {k : List Bool → Bool} : DoesN K (fun vs H Q => ∃ (a : Addr) (bs : List Bool), vs = [V.ref a] ∧ SqL K H a (bs.map V.bl) ∧ Q (.bl (k bs)) H) (g1 (fAll k)) := doesN1 fun x t w F H Q ff d hg => by
  cases t with
  | list ts =>
    simp only [fAll] at hg
    cases q : bools ts with
    | none => rw [q] at hg; cases hg
    | some bs =>
      rw [q] at hg; cases hg
      obtain ⟨p, ys, rfl, h, dd⟩ := d
      refine ⟨trivial, fun k => ⟨p, bs, rfl, ?_, k.1 _ (.bl _)⟩⟩
      rw [← bools_dp dd q]; exact h
  | _ => cases hg
theorem does_all {K : PySem.W.Frag} : DoesN K (rAll K) gAll := doesBs
end Ev

set_option Elab.async false
set_option linter.all false
set_option maxRecDepth 100000
namespace Ev
open PySem PySem.Spec PyProof.Rows L2
section
variable {K : PySem.W.Frag} {W : WX} {B : Bd} {e e1 e2 : En} {σ σ1 : Sg} {F H F1 H1 F2 H2 : Hp}
theorem BOk.up (k : BOk B e σ F H) : BOk { B with F := F } e σ F H :=
  ⟨fun _ _ h => h, fun a o h n => ⟨(k.keep a o h n).1, fun z => z⟩, k.dom, k.fresh, k.own, k.lent⟩
theorem BOk.down (k1 : BOk B e1 σ1 F1 H1) (k : BOk { B with F := F1 } e σ F H) : BOk B e σ F H where
  ff := fun a o h => k.ff _ _ (k1.ff _ _ h)
  keep := fun a o h n => ⟨(k.keep a o h n).1, fun z => (k.keep a o h n).2 ((k1.keep a o h n).2 z)⟩
  dom := k.dom
  fresh := k.fresh
  own := k.own
  lent := k.lent
/-! ### targets -/
/-- slots apart from ws stay -/
def Agree (ws : List Nat) (σ σ' : Sg) : Prop := σ'.length = σ.length ∧ ∀ j, j ∉ ws → σ'[j]? = σ[j]?
theorem Agree.refl {ws : List Nat} : Agree ws σ σ := ⟨rfl, fun _ _ => rfl⟩
theorem Agree.trans {ws : List Nat} {σ2 : Sg} (a : Agree ws σ σ1) (b : Agree ws σ1 σ2) : Agree ws σ σ2 := ⟨b.1.trans a.1, fun j h => (b.2 j h).trans (a.2 j h)⟩
abbrev SemG := T → En → Option En
def tG (K : PySem.W.Frag) (B : Bd) (ws : List Nat) (g : SemG) : TG := fun x σ H Q => ∃ e F t e', Rel K e σ F H ∧ BOk B e σ F H ∧ Dp K F x t ∧ g t e = some e' ∧ ∀ σ', Rel K e' σ' F H → BOk B e' σ' F H → Agree ws σ σ' → Q σ' H
theorem pg_mono {X : Cx} {tg : Expr} {t t' : TG} (h : PG X tg t) (m : ∀ x σ H Q, t' x σ H Q → t x σ H Q) : PG X tg t' := ⟨fun pins s σ H v u Q I r q => h.run pins s σ H v u Q I r (m v σ H Q q)⟩
abbrev QG (X : Cx) (B : Bd) (ws : List Nat) (tg : Expr) (g : SemG) : Prop := PG X tg (tG X.K B ws g)
def gN (i : Nat) : SemG := fun t e => if isLent e i then none else some (e.set i (.v t))
theorem qgn {X : Cx} {ws : List Nat} {i : Nat} {x : Str} {pos : Pos} (hN : X.N.Nodup) (hi : X.N[i]? = some x) (hx : Loc X.env.scope x) (hw : i ∈ ws) (hf : X.fn x = true ∨ X.env.scope.names.lookup x = some .local := by first | exact .inl rfl | exact .inr rfl | assumption) : QG X B ws (.Name x pos) (gN i) := by
  refine pg_mono (pg_name hN hi hx hf) fun x σ H Q h => ?_
  obtain ⟨e, F, t, e', R, k, d, hg, q⟩ := h
  simp only [gN] at hg
  cases l : isLent e i with
  | true => rw [l] at hg; cases hg
  | false =>
    rw [l] at hg; cases hg
    obtain ⟨a, b⟩ := set_v R k d (isLent_no l)
    exact q _ a b ⟨by simp, fun j hj => List.getElem?_set_ne fun (z : i = j) => hj (by rw [← z]; exact hw)⟩
abbrev SemGs := List T → En → Option En
def tGs (K : PySem.W.Frag) (B : Bd) (ws : List Nat) (g : SemGs) : TGs := fun xs σ H Q => ∃ e F ts e', Rel K e σ F H ∧ BOk B e σ F H ∧ DpAll K F xs ts ∧ g ts e = some e' ∧ ∀ σ', Rel K e' σ' F H → BOk B e' σ' F H → Agree ws σ σ' → Q σ' H
theorem pgs_mono {X : Cx} {tg : List Expr} {t t' : TGs} (h : PGs X tg t) (m : ∀ x σ H Q, t' x σ H Q → t x σ H Q) : PGs X tg t' := ⟨fun pins s σ H v u Q I r q => h.run pins s σ H v u Q I r (m v σ H Q q)⟩
abbrev QGs (X : Cx) (B : Bd) (ws : List Nat) (tg : List Expr) (g : SemGs) : Prop := PGs X tg (tGs X.K B ws g)
def gsNil : SemGs := fun ts e => match ts with
  | [] => some e
  | _ => none
def gsCons (g : SemG) (gs : SemGs) : SemGs := fun ts e => match ts with
  | t :: ts => (match g t e with
    | some e1 => gs ts e1
    | none => none)
  | [] => none
theorem qgsnil {X : Cx} {ws : List Nat} : QGs X B ws [] gsNil := by
  refine pgs_mono pgs_nil fun xs σ H Q h => ?_
  obtain ⟨e, F, ts, e', R, k, d, hg, q⟩ := h
  cases ts with
  | nil => cases d; cases hg; exact ⟨rfl, q _ R k .refl⟩
  | cons _ _ => cases hg
theorem qgscons {X : Cx} {ws : List Nat} {tg : Expr} {tgs : List Expr} {g : SemG} {gs : SemGs} (h1 : QG X B ws tg g) (h2 : QGs X B ws tgs gs)
    (hs : (assignEach (tg :: tgs) X.env).map (·.2) = assign tg X.env :: (assignEach tgs X.env).map (·.2) := by rfl) : QGs X B ws (tg :: tgs) (gsCons g gs) := by
  refine pgs_mono (pgs_cons h1 h2 hs) fun xs σ H Q h => ?_
  obtain ⟨e, F, ts, e', R, k, d, hg, q⟩ := h
  cases ts with
  | nil => cases hg
  | cons t ts =>
    cases d with
    | cons a b =>
      simp only [gsCons] at hg
      cases q1 : g t e with
      | none => rw [q1] at hg; cases hg
      | some e1 =>
        rw [q1] at hg
        exact ⟨_, _, rfl, e, F, t, e1, R, k, a, q1, fun σ' R' k' ag => ⟨e1, F, ts, e', R', k', b, hg, fun σ2 R2 k2 ag2 => q σ2 R2 k2 (ag.trans ag2)⟩⟩
def gT (n : Nat) (gs : SemGs) : SemG := fun t e => match t with
  | .tuple ts => if ts.length = n then gs ts e else none
  | _ => none
theorem qgt {X : Cx} {ws : List Nat} {es : List Expr} {k : Nat} {pos : Pos} {gs : SemGs} {n : Nat} (hc : X.calm = true) (h : QGs X B ws es gs)
    (hn : (assignEach es X.env).length = n := by rfl) (hst : (assignEach es X.env).findIdx? (·.1) = none := by rfl) : QG X B ws (.Tuple es k pos) (gT n gs) := by
  refine pg_mono (pg_tup hc h hn hst) fun x σ H Q h => ?_
  obtain ⟨e, F, t, e', R, k, d, hg, q⟩ := h
  cases t with
  | tuple ts =>
    simp only [gT] at hg
    split at hg
    · rename_i hl
      cases d with
      | tup hs dd => exact ⟨_, _, rfl, tupS R.sub hs, by rw [dpAll_len dd]; exact hl, e, F, ts, e', R, k, dd, hg, q⟩
    · cases hg
  | _ => cases hg
/-- target = value -/
def sAsg (g : SemG) (m : SemE) : SemS := fun e => (m e).bind fun r e1 => match esc r e1 with
  | some (t, e2) => (match g t e2 with
    | some e3 => .ok .nx e3
    | none => .bad)
  | none => .bad
theorem qasg {X : Cx} {ws : List Nat} {tg a : Expr} {pos : Pos} {g : SemG} {ma : SemE} (he : QE X W a ma) (hg : QG X B ws tg g) (hs : swapsWithSole [tg] a pos.line X.env = pure false := by rfl) (hw : swappedStores [tg] a X.env = pure none := by rfl)
    (h1 : (assignEach [tg] X.env).map (·.2) = [assign tg X.env] := by rfl) : QS X W B (.Assign [tg] a pos) (sAsg g ma) := by
  refine ps_mono (ps_asg he hg hs hw h1) fun D σ H h => ?_
  obtain ⟨e, F, R, k, h⟩ := h
  refine tX_imp (tS_bind (rel := fun σ => OdR X.K σ) R k h) fun x H1 ⟨r, e1, F1, R1, S1, k1, O, h2⟩ => ?_
  cases q : esc r e1 with
  | none => simp only [q] at h2; exact h2.elim
  | some te =>
    obtain ⟨t, e2⟩ := te
    simp only [q] at h2
    obtain ⟨F2, R2, S2, d, _⟩ := esc_ok R R1 S1 O q
    cases q2 : g t e2 with
    | none => simp only [q2] at h2; exact h2.elim
    | some e3 =>
      simp only [q2] at h2
      exact ⟨e2, F2, t, e3, R2, k.step S2, d, q2, fun σ' R' k' _ => h2 σ' F2 _ R' k'⟩
/-! ### what a loop walks -/
def Wk (K : PySem.W.Frag) (F0 : Hp) (J : It) (ts : List T) : Prop := ∀ (i : Nat) (F H : Hp), (∀ a o, F0 a = some o → F a = some o) → (∀ a o, F a = some o → H a = some o) →
  (∀ t, ts[i]? = some t → J.go i H ∧ ∀ x H', J.yld i H x H' → (H' = H ∧ Dp K F x t) ∨ ∃ p vs ws, x = .ref p ∧ H p = none ∧ H' = upd H p (.tup vs) ∧ t = .tuple ws ∧ DpAll K F vs ws) ∧ (ts.length ≤ i → J.stop i H)
abbrev SemI := En → Out (List T)
theorem pi_mono {X : Cx} {tg it : Expr} {t t' : TI} (h : PI X tg it t) (m : ∀ σ H Q, t' σ H Q → t σ H Q) : PI X tg it t' := ⟨fun pins s σ H Q I q => h.run pins s σ H Q I (m σ H Q q)⟩
abbrev tI (K : PySem.W.Frag) (W : WX) (m : SemI) : TI := tX K W (fun _ _ F _ J ts => Wk K F J ts) m
abbrev QI (X : Cx) (W : WX) (tg it : Expr) (m : SemI) : Prop := PI X tg it (tI X.K W m)
theorem wk_list {F : Hp} {a : Addr} {xs : List V} {ts : List T} (h : SqL K F a xs) (d : DpAll K F xs ts) : Wk K F (Itl K a) ts := by
  intro i F' H ff fh
  have hF : SqL K F' a xs := sqL_mono ff h
  have hH : SqL K H a xs := sqL_mono fh hF
  refine ⟨fun t ht => ?_, fun hi => ⟨xs, hH, by rw [dpAll_len d]; exact hi⟩⟩
  obtain ⟨v, hv, dv⟩ := dpAll_get d ht
  refine ⟨⟨xs, v, hH, hv⟩, fun x H' ⟨eH, y⟩ => .inl ⟨eH, ?_⟩⟩
  have := y xs hH
  rw [hv] at this; cases this
  exact dp_mono ff _ _ dv
theorem wk_tup {F : Hp} {a : Addr} {xs : List V} {ts : List T} (h : SqT K F a xs) (d : DpAll K F xs ts) : Wk K F (Itt K a) ts := by
  intro i F' H ff fh
  have hF : SqT K F' a xs := sqT_mono ff h
  have hH : SqT K H a xs := sqT_mono fh hF
  refine ⟨fun t ht => ?_, fun hi => ⟨xs, hH, by rw [dpAll_len d]; exact hi⟩⟩
  obtain ⟨v, hv, dv⟩ := dpAll_get d ht
  refine ⟨⟨xs, v, hH, hv⟩, fun x H' ⟨eH, y⟩ => .inl ⟨eH, ?_⟩⟩
  have := y xs hH
  rw [hv] at this; cases this
  exact dp_mono ff _ _ dv
def iSeq (K : PySem.W.Frag) (tl : TE) : TI := fun σ H R => tl σ H fun x H1 => ∃ a, x = .ref a ∧ (((∃ xs, SqL K H1 a xs) ∧ R (Itl K a) H1) ∨ ((∃ xs, SqT K H1 a xs) ∧ R (Itt K a) H1))
theorem pi_seq {X : Cx} {tg l : Expr} {tl : TE} (hl : PE X l tl) : PI X tg l (iSeq X.K tl) := by
  refine ⟨fun pins s σ H R I h => ?_⟩
  refine thn (hl.run pins s σ H _ I h) fun v s1 ⟨x, H1, I1, r1, q1⟩ => ?_
  obtain ⟨a, e, q⟩ := q1
  subst e
  cases r1
  have fp : ∀ b ∈ [s1.heap.objs.size], FpOk X pins H1 b := fun b hb => by
    have e : b = s1.heap.objs.size := by simpa using hb
    subst e
    exact I1.fpOk (Nat.le_refl _) (I1.hok.fresh (Nat.le_refl _))
  rcases q with ⟨⟨xs, hq⟩, q⟩ | ⟨⟨xs, hq⟩, q⟩
  · obtain ⟨its, rv, p, hz⟩ := I1.list hq
    refine wpAny_pyIter_list p.isList ?_
    exact ⟨s1.heap.objs.size, [s1.heap.objs.size], _, _, H1, rfl, I1.kept (t' := s1.toks) fun b o e => Heap.get?_push_of_some _ e, turn_list a _, ⟨_, Heap.get?_push_size _ rfl, rfl, rfl⟩, fp, q⟩
  · obtain ⟨its, rv, p, hz⟩ := I1.tuple hq
    refine wpAny_pyIter_tuple (show s1.heap.IsTuple a its.toArray from p) ?_
    exact ⟨s1.heap.objs.size, [s1.heap.objs.size], _, _, H1, rfl, I1.kept (t' := s1.toks) fun b o e => Heap.get?_push_of_some _ e, turn_tuple a _, ⟨_, Heap.get?_push_size _ rfl, rfl, rfl⟩, fp, q⟩
/-- the items of a list, of a tuple -/
def iOf (m : SemE) : SemI := fun e => (m e).bind fun r e1 => match esc r e1 with
  | some (.list ts, e2) => .ok ts e2
  | some (.tuple ts, e2) => .ok ts e2
  | _ => .bad
theorem qiof {X : Cx} {tg a : Expr} {ma : SemE} (ha : QE X W a ma) : QI X W tg a (iOf ma) := by
  refine pi_mono (pi_seq ha) fun σ H Q h => ?_
  obtain ⟨e, F, R, h⟩ := h
  refine tX_imp (tX_bind (rel := fun σ => OdR X.K σ) R .refl h) fun x H1 ⟨r, e1, F1, R1, S1, O, h2⟩ => ?_
  cases q : esc r e1 with
  | none => simp only [q] at h2; exact h2.elim
  | some te =>
    obtain ⟨t, e2⟩ := te
    obtain ⟨F2, R2, S2, d, _⟩ := esc_ok R R1 S1 O q
    cases t with
    | list ts =>
      simp only [q] at h2
      cases d with
      | lst hs dd => exact ⟨_, rfl, .inl ⟨⟨_, sqL_mono R2.sub hs⟩, h2 _ F2 H1 R2 S2 (wk_list hs dd)⟩⟩
    | tuple ts =>
      simp only [q] at h2
      cases d with
      | tup hs dd => exact ⟨_, rfl, .inr ⟨⟨_, tupS R2.sub hs⟩, h2 _ F2 H1 R2 S2 (wk_tup (SqT.of hs) dd)⟩⟩
    | none => simp only [q] at h2; exact h2.elim
    | bool _ => simp only [q] at h2; exact h2.elim
    | str _ => simp only [q] at h2; exact h2.elim
    | int _ => simp only [q] at h2; exact h2.elim
    | dict _ => simp only [q] at h2; exact h2.elim
/-- lo, lo + 1, .. -/
def intsT (lo : Int) (n : Nat) : List T := (List.range n).map fun (k : Nat) => .int (lo + (k : Int))
theorem wk_range {F : Hp} {lo : Int} {n : Nat} : Wk K F (Itr lo n) (intsT lo n) := by
  intro i F' H ff fh
  refine ⟨fun t ht => ?_, fun hi => (show n ≤ i by simpa [intsT] using hi)⟩
  have hi : i < n := by have := (List.getElem?_eq_some_iff.mp ht).1; simpa [intsT] using this
  refine ⟨hi, fun x H' ⟨eH, ex⟩ => .inl ⟨eH, ?_⟩⟩
  subst ex
  simp [intsT, hi] at ht
  subst ht
  exact .int _
def iR1 (m : SemA) : SemI := fun e => (m e).bind fun rs e1 => match vals e1 rs with
  | some [.int j] => if -(2 ^ 62) ≤ j ∧ j < 2 ^ 62 then .ok (intsT 0 j.toNat) e1 else .bad
  | _ => .bad
def iR2 (m : SemA) : SemI := fun e => (m e).bind fun rs e1 => match vals e1 rs with
  | some [.int i, .int j] => if -(2 ^ 62) ≤ i ∧ i < 2 ^ 62 ∧ -(2 ^ 62) ≤ j ∧ j < 2 ^ 62 then .ok (intsT i (j - i).toNat) e1 else .bad
  | _ => .bad
theorem qir1 {X : Cx} {tg a : Expr} {m : SemA} {p pos : Pos} (hg : Gl X "range") (hm : X.mg "range" = none) (ha : QA X W [a] m) (hs : starEach [a] X.env = [(false, eval a X.env)] := by rfl) : QI X W tg (.Call (.Name "range" p) [a] [] pos) (iR1 m) := by
  refine pi_mono (pi_range1 hg hm ha hs) fun σ H Q h => ?_
  obtain ⟨e, F, R, h⟩ := h
  refine tX_imp (tX_bind (rel := fun σ Hs F H xs rs => OdsR X.K σ Hs F H rs xs) R .refl h) fun xs H1 ⟨rs, e1, F1, R1, S1, O, h2⟩ => ?_
  split at h2
  · rename_i j q
    have d := vals_ok R1 O q
    split at h2
    · rename_i hl
      cases d with
      | cons a d => cases d; cases a; exact ⟨j, rfl, hl.1, hl.2, h2 _ F1 H1 R1 S1 wk_range⟩
    · exact h2.elim
  · exact h2.elim
/-- pairs -/
def pairs (ts us : List T) : List T := (ts.zip us).map fun p => .tuple [p.1, p.2]
def iZip (m : SemA) : SemI := fun e => (m e).bind fun rs e1 => match escs rs e1 with
  | some ([.list ts, .list us], e2) => .ok (pairs ts us) e2
  | _ => .bad
/-- numbered -/
def enumT (ts : List T) : List T := ts.zipIdx.map fun p => .tuple [.int (p.2 : Nat), p.1]
def iEnu (m : SemA) : SemI := fun e => (m e).bind fun rs e1 => match escs rs e1 with
  | some ([.list ts], e2) => .ok (enumT ts) e2
  | _ => .bad
/-! ### for -/
def forS (g : SemG) (b : SemS) : List T → SemS
  | [], e => .ok .nx e
  | t :: ts, e => match g t e with
    | some e1 => (match b e1 with
      | .ok .nx e2 => forS g b ts e2
      | .ok .ct e2 => forS g b ts e2
      | .ok .bk e2 => .ok .nx e2
      | .ok (.rt r) e2 => .ok (.rt r) e2
      | .exc c t e2 => .exc c t e2
      | .bad => .bad)
    | none => .bad
def sFor (mi : SemI) (g : SemG) (b : SemS) : SemS := fun e => (mi e).bind fun ts e1 => forS g b ts e1
theorem qss_any {X : Cx} {st : List Stmt} {m : SemS} (h : ∀ B, QSs X W B st m) : PSs X st (fun D σ H => ∃ B, tS X.K W B m D σ H) := ⟨fun pins s σ H D I ⟨B, q⟩ => (h B).run pins s σ H D I q⟩
theorem qg_any {X : Cx} {ws : List Nat} {tg : Expr} {g : SemG} (h : ∀ B, QG X B ws tg g) : PG X tg (fun x σ H Q => ∃ B, tG X.K B ws g x σ H Q) := ⟨fun pins s σ H v u Q I r ⟨B, q⟩ => (h B).run pins s σ H v u Q I r q⟩
def LoopN (K : PySem.W.Frag) (W : WX) (B : Bd) (F1 : Hp) (g : SemG) (b : SemS) (D : Ends) (ts : List T) (σ : Sg) (H : Hp) : Prop :=
  ∃ e F, Rel K e σ F H ∧ BOk { B with F := F1 } e σ F H ∧ OutS K W B (forS g b ts e) D
theorem qfor {X : Cx} {ws : List Nat} {tg it : Expr} {body : List Stmt} {mi : SemI} {g : SemG} {b : SemS} {pos : Pos} (hp : PassesOwn (model X.prog X.w) X.A X.env X.xe) (hc : X.calm = true) (hi : QI X W tg it mi) (hg : ∀ B, QG X B ws tg g) (hb : ∀ B, QSs X W B body b)
    (hs : ∀ x, foldedSetIterable it X.env x = pure x := by intro _; rfl) : QS X W B (.For tg it body [] pos) (sFor mi g b) := by
  refine ps_mono (ps_for hp hc hi (qg_any hg) (qss_any hb) hs) fun D σ H h => ?_
  obtain ⟨e, F, R, k, h⟩ := h
  refine tX_imp (tS_bind (rel := fun _ _ F _ J ts => Wk X.K F J ts) R k h) fun J H1 ⟨ts, e1, F1, R1, S1, k1, wk, h1⟩ => ?_
  refine ⟨fun i m σ' H' => m = ts.length - i ∧ i ≤ ts.length ∧ LoopN X.K W B F1 g b D (ts.drop i) σ' H', ⟨_, rfl, Nat.zero_le _, e1, F1, R1, k1.up, h1⟩, ?_⟩
  rintro i m σ' H' ⟨rfl, hi, e2, F2, R2, k2, h2⟩
  obtain ⟨go, stop⟩ := wk i F2 H' k2.ff R2.sub
  by_cases hlt : i < ts.length
  · have ht : ts[i]? = some ts[i] := List.getElem?_eq_getElem hlt
    rw [List.drop_eq_getElem_cons hlt] at h2
    obtain ⟨g1, y1⟩ := go _ ht
    refine .inr ⟨g1, LoopN X.K W B F1 g b D (ts.drop (i + 1)), fun σ3 H3 n => ⟨_, (by omega : ts.length - (i + 1) < ts.length - i), rfl, hlt, n⟩, fun x H3 y => ?_⟩
    simp only [forS] at h2
    cases q : g ts[i] e2 with
    | none => simp only [q] at h2; exact h2.elim
    | some e3 =>
      simp only [q] at h2
      have next : ∀ (F3 : Hp) (σ4 : Sg) (H4 : Hp), Rel X.K e3 σ4 F3 H4 → BOk { B with F := F1 } e3 σ4 F3 H4 → ∃ B', tS X.K W B' b { D with nx := LoopN X.K W B F1 g b D (ts.drop (i + 1)), ct := LoopN X.K W B F1 g b D (ts.drop (i + 1)), bk := D.nx } σ4 H4 := fun F3 σ4 H4 R4 k4 => by
        refine ⟨{ B with F := F1 }, e3, F3, R4, k4, ?_⟩
        cases w : b e3 with
        | bad => rw [w] at h2; exact h2
        | exc c t e5 => rw [w] at h2; exact fun σ5 F5 H5 cls d R5 k5 => h2 σ5 F5 H5 cls d R5 (k1.down k5)
        | ok f e5 =>
          rw [w] at h2
          cases f with
          | nx => exact fun σ5 F5 H5 R5 k5 => ⟨e5, F5, R5, k5, h2⟩
          | ct => exact fun σ5 F5 H5 R5 k5 => ⟨e5, F5, R5, k5, h2⟩
          | bk => exact fun σ5 F5 H5 R5 k5 => h2 σ5 F5 H5 R5 (k1.down k5)
          | rt r => exact fun x σ5 F5 H5 R5 k5 o => h2 x σ5 F5 H5 R5 (k1.down k5) o
      rcases y1 x H3 y with ⟨eH, d⟩ | ⟨p, vs, ws, ex, hp, eH, et, d⟩
      · subst eH
        exact ⟨_, e2, F2, _, e3, R2, k2, d, q, fun σ4 R4 k4 _ => next F2 σ4 _ R4 k4⟩
      · subst eH ex
        have R3 := laid_frz (o := .tup vs) R2 hp
        have S3 := laid_frz_step (o := .tup vs) R2 .refl hp
        have dd : Dp X.K (upd F2 p (.tup vs)) (.ref p) ts[i] := by
          rw [et]
          exact .tup upd_same (dpAll_mono (fun a o h => by rw [upd_ne (ne_of_none h (sub_none R2 hp))]; exact h) d)
        exact ⟨_, e2, _, _, e3, R3, k2.step S3, dd, q, fun σ4 R4 k4 _ => next _ σ4 _ R4 k4⟩
  · have he : i = ts.length := by omega
    subst he
    rw [List.drop_length] at h2
    exact .inl ⟨stop (Nat.le_refl _), h2 _ F2 H' R2 (k1.down k2)⟩
/-! ### while -/
end
end Ev

set_option Elab.async false
set_option linter.all false
set_option maxRecDepth 100000
namespace Ev
open PySem PySem.Spec PyProof.Rows L2
def GOk (ws : List Nat) (g : SemG) : Prop := ∀ t e e', g t e = some e' → e'.length = e.length ∧ ∀ j, e'[j]? = e[j]? ∨ (j ∈ ws ∧ ∃ t, e'[j]? = some (.v t))
def GsOk (ws : List Nat) (g : SemGs) : Prop := ∀ t e e', g t e = some e' → e'.length = e.length ∧ ∀ j, e'[j]? = e[j]? ∨ (j ∈ ws ∧ ∃ t, e'[j]? = some (.v t))
theorem gok_n {ws : List Nat} {i : Nat} (h : i ∈ ws) : GOk ws (gN i) := fun t e e' hg => by
  simp only [gN] at hg
  split at hg
  · cases hg
  · cases hg
    refine ⟨by simp, fun j => ?_⟩
    by_cases q : i = j
    · subst q
      by_cases hi : i < e.length
      · exact .inr ⟨h, t, List.getElem?_set_self hi⟩
      · left; rw [List.getElem?_eq_none (by simpa using hi), List.getElem?_eq_none (by simpa using hi)]
    · exact .inl (List.getElem?_set_ne q)
theorem gsok_nil {ws : List Nat} : GsOk ws gsNil := fun t e e' hg => by
  cases t with
  | nil => cases hg; exact ⟨rfl, fun j => .inl rfl⟩
  | cons _ _ => cases hg
theorem gsok_cons {ws : List Nat} {g : SemG} {gs : SemGs} (h1 : GOk ws g) (h2 : GsOk ws gs) : GsOk ws (gsCons g gs) := fun t e e' hg => by
  cases t with
  | nil => cases hg
  | cons t ts =>
    simp only [gsCons] at hg
    cases q : g t e with
    | none => rw [q] at hg; cases hg
    | some e1 =>
      rw [q] at hg
      obtain ⟨l1, a1⟩ := h1 t e e1 q
      obtain ⟨l2, a2⟩ := h2 ts e1 e' hg
      refine ⟨l2.trans l1, fun j => ?_⟩
      rcases a2 j with z | z
      · rcases a1 j with w | ⟨w, t', w2⟩
        · exact .inl (z.trans w)
        · exact .inr ⟨w, t', z.trans w2⟩
      · exact .inr z
theorem gok_t {ws : List Nat} {n : Nat} {gs : SemGs} (h : GsOk ws gs) : GOk ws (gT n gs) := fun t e e' hg => by
  cases t with
  | tuple ts =>
    simp only [gT] at hg
    split at hg
    · exact h ts e e' hg
    · cases hg
  | _ => cases hg
def wipeE (e : En) : List Nat → En
  | [] => e
  | v :: vs => (wipeE e vs).set v .un
theorem wipeE_len (e : En) : ∀ vs, (wipeE e vs).length = e.length
  | [] => rfl
  | v :: vs => by unfold wipeE; rw [List.length_set, wipeE_len e vs]
theorem wipeE_out {e : En} {j : Nat} : ∀ {vs : List Nat}, j ∉ vs → (wipeE e vs)[j]? = e[j]?
  | [], _ => rfl
  | v :: vs, h => by
    unfold wipeE
    rw [List.getElem?_set_ne (fun z => h (by rw [← z]; exact List.mem_cons_self)), wipeE_out fun z => h (List.mem_cons_of_mem _ z)]
theorem wipeE_in {e : En} {j : Nat} {s : Sl} : ∀ {vs : List Nat}, j ∈ vs → (wipeE e vs)[j]? = some s → s = .un
  | [], h, _ => by cases h
  | v :: vs, h, q => by
    unfold wipeE at q
    by_cases hv : v = j
    · subst hv
      have hl : v < (wipeE e vs).length := by have := (List.getElem?_eq_some_iff.mp q).1; simpa using this
      rw [List.getElem?_set_self hl] at q; cases q; rfl
    · rw [List.getElem?_set_ne hv] at q
      exact wipeE_in ((List.mem_cons.mp h).resolve_left fun z => hv z.symm) q
theorem wipe_out {σ : Sg} {j : Nat} : ∀ {vs : List Nat}, j ∉ vs → (wipe σ vs)[j]? = σ[j]?
  | [], _ => rfl
  | v :: vs, h => by
    unfold wipe
    rw [List.getElem?_set_ne (fun z => h (by rw [← z]; exact List.mem_cons_self)), wipe_out fun z => h (List.mem_cons_of_mem _ z)]
theorem wipe_in {σ : Sg} {j : Nat} {o : Option V} : ∀ {vs : List Nat}, j ∈ vs → (wipe σ vs)[j]? = some o → o = none
  | [], h, _ => by cases h
  | v :: vs, h, q => by
    unfold wipe at q
    by_cases hv : v = j
    · subst hv
      have hl : v < (wipe σ vs).length := by have := (List.getElem?_eq_some_iff.mp q).1; simpa using this
      rw [List.getElem?_set_self hl] at q; cases q; rfl
    · rw [List.getElem?_set_ne hv] at q
      exact wipe_in ((List.mem_cons.mp h).resolve_left fun z => hv z.symm) q
theorem wipe_agree {σ σ2 : Sg} {vs : List Nat} (a : Agree vs (wipe σ vs) σ2) : wipe σ2 vs = wipe σ vs := by
  have l1 : σ2.length = σ.length := a.1.trans (wipe_length σ vs)
  refine List.ext_getElem? fun j => ?_
  by_cases h : j ∈ vs
  · by_cases hj : j < σ.length
    · have h1 : j < (wipe σ2 vs).length := by rw [wipe_length, l1]; exact hj
      have h2 : j < (wipe σ vs).length := by rw [wipe_length]; exact hj
      have q1 := wipe_in h (List.getElem?_eq_getElem h1)
      have q2 := wipe_in h (List.getElem?_eq_getElem h2)
      rw [List.getElem?_eq_getElem h1, List.getElem?_eq_getElem h2, q1, q2]
    · rw [List.getElem?_eq_none (by rw [wipe_length, l1]; omega), List.getElem?_eq_none (by rw [wipe_length]; omega)]
  · rw [wipe_out h, a.2 j h]
def restE (e e2 : En) : List Nat → En
  | [] => e2
  | v :: vs => (restE e e2 vs).set v ((e[v]?).getD .un)
theorem restE_len (e e2 : En) : ∀ vs, (restE e e2 vs).length = e2.length
  | [] => rfl
  | v :: vs => by unfold restE; rw [List.length_set, restE_len e e2 vs]
theorem restE_out {e e2 : En} {j : Nat} : ∀ {vs : List Nat}, j ∉ vs → (restE e e2 vs)[j]? = e2[j]?
  | [], _ => rfl
  | v :: vs, h => by
    unfold restE
    rw [List.getElem?_set_ne (fun z => h (by rw [← z]; exact List.mem_cons_self)), restE_out fun z => h (List.mem_cons_of_mem _ z)]
theorem restE_in {e e2 : En} {j : Nat} (hl : e2.length = e.length) : ∀ {vs : List Nat}, j ∈ vs → (restE e e2 vs)[j]? = e[j]?
  | [], h => by cases h
  | v :: vs, h => by
    unfold restE
    by_cases hv : v = j
    · subst hv
      by_cases hj : v < e.length
      · rw [List.getElem?_set_self (by rw [restE_len, hl]; exact hj), List.getElem?_eq_getElem hj]; rfl
      · rw [List.getElem?_eq_none (by rw [List.length_set, restE_len, hl]; omega), List.getElem?_eq_none (by omega)]
    · rw [List.getElem?_set_ne hv]
      exact restE_in hl ((List.mem_cons.mp h).resolve_left fun z => hv z.symm)
section
variable {K : PySem.W.Frag} {W : WX} {B : Bd} {e e1 e2 : En} {σ σ1 : Sg} {F H F1 H1 F2 H2 : Hp}
theorem wipe_rel {vs : List Nat} (R : Rel K e σ F H) : Rel K (wipeE e vs) (wipe σ vs) F H := by
  have get : ∀ (j : Nat) (s : Sl), (wipeE e vs)[j]? = some s → s = .un ∨ (j ∉ vs ∧ e[j]? = some s) := fun j s h => by
    by_cases q : j ∈ vs
    · exact .inl (wipeE_in q h)
    · rw [wipeE_out q] at h; exact .inr ⟨q, h⟩
  refine ⟨R.sub, by rw [wipeE_len, wipe_length]; exact R.len, fun j s o h1 h2 => ?_, fun j j' l b l' b' p h1 h2 h3 h4 => ?_⟩
  · rcases get j s h1 with rfl | ⟨q, h⟩
    · trivial
    · rw [wipe_out q] at h2; exact R.at_ j s o h h2
  · rcases get j _ h1 with z | ⟨q, g1⟩
    · cases z
    · rcases get j' _ h2 with z | ⟨q', g2⟩
      · cases z
      · rw [wipe_out q] at h3; rw [wipe_out q'] at h4; exact R.ne j j' l b l' b' p g1 g2 h3 h4
theorem upd_at {D : Addr} {o o' : HO} (R : Rel K e σ F H) (hH : H D = some o) (hf : F D = none) (no : ¬ Own e σ D) : Rel K e σ F (upd H D o') := by
  refine ⟨fun a u h => ?_, R.len, fun i s u h1 h2 => ?_, R.ne⟩
  · have ne : a ≠ D := fun z => by subst z; rw [hf] at h; cases h
    rw [upd_ne ne]; exact R.sub _ _ h
  · have z := R.at_ i s u h1 h2
    cases s with
    | un => trivial
    | v t => exact z
    | fz b => exact z
    | ow l b =>
      obtain ⟨p, ep, hf', bx⟩ := z
      have np : p ≠ D := fun w => no ⟨i, l, b, h1, by rw [h2, ep, w]⟩
      exact ⟨p, ep, hf', bx_keep bx (fun _ _ h => h) fun o h => by rw [upd_ne np]; exact h⟩
theorem step_upd {D : Addr} {o' : HO} (S : Step e e1 σ F H F1 H1) (hD : H D = none) : Step e e1 σ F H F1 (upd H1 D o') := by
  have ne : ∀ a u, H a = some u → a ≠ D := fun a u h z => by subst z; rw [hD] at h; cases h
  exact ⟨S.ff, fun a u h n => ⟨by rw [upd_ne (ne a u h)]; exact (S.keep a u h n).1, (S.keep a u h n).2⟩, fun a u h => by rw [upd_ne (ne a u h)]; exact S.dom a u h, S.own, S.lt, S.sk⟩
/-- a bound that says nothing -/
def bd0 (e : En) (σ : Sg) : Bd := ⟨e, σ, fun _ => none, fun _ => none⟩
theorem bok0 {e : En} {σ : Sg} {F H : Hp} : BOk (bd0 e σ) e σ F H :=
  ⟨(fun _ _ h => nomatch h), (fun _ _ h => nomatch h), (fun _ _ h => nomatch h), (fun _ _ _ _ _ => rfl), (fun i b h => ⟨rfl, b, h⟩), (fun i b h => ⟨⟨b, .inl h⟩, rfl⟩)⟩
/-- behind a turn of a comprehension -/
theorem rest_rel {vs : List Nat} {e4 : En} {σ2 : Sg} {F4 H4 : Hp} (R : Rel K e σ F H) (h1 : e1.length = e.length) (a1 : ∀ j, e1[j]? = (wipeE e vs)[j]? ∨ (j ∈ vs ∧ ∃ t, e1[j]? = some (.v t))) (ag : Agree vs (wipe σ vs) σ2)
    (R4 : Rel K e4 σ2 F4 H4) (S : Step e1 e4 σ2 F H F4 H4) : Rel K (restE e e4 vs) σ F4 H4 ∧ Step e (restE e e4 vs) σ F H F4 H4 := by
  have sg : ∀ j, j ∉ vs → σ2[j]? = σ[j]? := fun j h => by rw [ag.2 j h, wipe_out h]
  have l2 : σ2.length = σ.length := ag.1.trans (wipe_length σ vs)
  have l4 : e4.length = e.length := by rw [R4.len, l2, ← R.len]
  have in1 : ∀ (j : Nat) (l : Bool) (b : Bx), e1[j]? = some (.ow l b) → j ∉ vs ∧ e[j]? = some (.ow l b) := fun j l b h => by
    by_cases q : j ∈ vs
    · rcases a1 j with z | ⟨_, t, z⟩
      · rw [h] at z; exact nomatch wipeE_in q z.symm
      · rw [h] at z; cases z
    · rcases a1 j with z | ⟨q', _⟩
      · rw [h, wipeE_out q] at z; exact ⟨q, z.symm⟩
      · exact absurd q' q
  have own1 : ∀ p, Own e1 σ2 p → Own e σ p := fun p ⟨j, l, b, q1, q2⟩ => by
    obtain ⟨n, q⟩ := in1 j l b q1
    exact ⟨j, l, b, q, by rw [← sg j n]; exact q2⟩
  have get : ∀ (j : Nat) (s : Sl), (restE e e4 vs)[j]? = some s → (j ∈ vs ∧ e[j]? = some s) ∨ (j ∉ vs ∧ e4[j]? = some s) := fun j s h => by
    by_cases q : j ∈ vs
    · rw [restE_in l4 q] at h; exact .inl ⟨q, h⟩
    · rw [restE_out q] at h; exact .inr ⟨q, h⟩
  have kind : SameKinds e (restE e e4 vs) := fun j l b h => by
    rcases get j _ h with ⟨_, q⟩ | ⟨n, q⟩
    · exact ⟨b, q⟩
    · obtain ⟨b', q'⟩ := S.sk j l b q
      exact ⟨b', (in1 j l b' q').2⟩
  refine ⟨⟨R4.sub, by rw [restE_len, l4]; exact R.len, fun j s o g1 g2 => ?_, fun j j' l b l' b' p g1 g2 g3 g4 => ?_⟩, ⟨S.ff, fun a o h n => S.keep a o h fun z => n (own1 a z), S.dom, fun p ⟨j, l, b, g1, g2⟩ => ?_, fun j hj => ?_, kind⟩⟩
  · rcases get j s g1 with ⟨q, g⟩ | ⟨q, g⟩
    · have w := R.at_ j s o g g2
      cases s with
      | un => trivial
      | v t => obtain ⟨y, ey, d⟩ := w; exact ⟨y, ey, dp_mono S.ff _ _ d⟩
      | fz b => obtain ⟨y, ey, d⟩ := w; exact ⟨y, ey, dp_mono S.ff _ _ d⟩
      | ow l b =>
        obtain ⟨p, ep, hf, bx⟩ := w
        subst ep
        obtain ⟨u, hu⟩ := bx_some bx
        have na : ¬ Own e1 σ2 p := fun ⟨j', l', b', q1, q2⟩ => by
          obtain ⟨n, q3⟩ := in1 j' l' b' q1
          have := R.ne j' j l' b' l b p q3 g (by rw [← sg j' n]; exact q2) g2
          subst this
          exact n q
        obtain ⟨k1, k2⟩ := S.keep p u hu na
        exact ⟨p, rfl, k2 hf, bx_keep bx S.ff fun o' h' => by rw [hu] at h'; cases h'; exact k1⟩
    · rw [← sg j q] at g2; exact R4.at_ j s o g g2
  · obtain ⟨b1, q1⟩ := kind j l b g1
    obtain ⟨b2, q2⟩ := kind j' l' b' g2
    exact R.ne j j' l b1 l' b2 p q1 q2 g3 g4
  · obtain ⟨b1, q1⟩ := kind j l b g1
    exact ⟨j, l, b1, q1, g2⟩
  · by_cases q : j ∈ vs
    · obtain ⟨b, w⟩ := hj
      exact ⟨b, by rw [restE_in l4 q]; exact w⟩
    · have : Lent e1 j := by
        obtain ⟨b, w⟩ := hj
        rcases a1 j with z | ⟨q', _⟩
        · exact ⟨b, by rw [z, wipeE_out q]; exact w⟩
        · exact absurd q' q
      obtain ⟨b, w⟩ := S.lt j this
      exact ⟨b, by rw [restE_out q]; exact w⟩
end
/-! ### comprehensions -/
/-- nothing raised -/
def Out.nx {α : Type} : Out α → Out α
  | .exc _ _ _ => .bad
  | o => o
def compS (g : SemG) (c : SemT) (m : SemE) (vs : List Nat) : List T → List T → SemE
  | [], acc, e => .ok (.b (.l acc)) e
  | t :: ts, acc, e => match g t (wipeE e vs) with
    | some e1 => (c e1).nx.bind fun k e2 => if k then (m e2).nx.bind fun r e3 => (match esc r e3 with
        | some (u, e4) => if acc.length < sizeLine then compS g c m vs ts (acc ++ [u]) (restE e e4 vs) else .bad
        | none => .bad)
      else compS g c m vs ts acc (restE e e2 vs)
    | none => .bad
def eComp (mi : SemI) (g : SemG) (c : SemT) (m : SemE) (vs : List Nat) : SemE := fun e => (mi e).bind fun ts e1 => compS g c m vs ts [] e1
abbrev W0 : WX := fun _ _ _ _ => False
theorem tX_nx {α β : Type} {K : PySem.W.Frag} {rel : Sg → Hp → Hp → Hp → β → α → Prop} {m : En → Out α} {e1 e2 : En} {r : α} {σ : Sg} {F1 H1 : Hp} {Q : β → Hp → Prop} (R1 : Rel K e1 σ F1 H1) (w : m e1 = .ok r e2)
    (hq : ∀ x F2 H2, Rel K e2 σ F2 H2 → Step e1 e2 σ F1 H1 F2 H2 → rel σ H1 F2 H2 x r → Q x H2) : tX K W0 rel m σ H1 Q := by
  refine ⟨e1, F1, R1, ?_⟩
  rw [w]
  exact fun x F' H' R' S' O => hq x F' H' R' S' O
/-- the reading of a comprehension's walk, from a state on -/
structure CompN (K : PySem.W.Frag) (W : WX) (F1 : Hp) (g : SemG) (c : SemT) (m : SemE) (vs : List Nat) (e0 : En) (F0 H0 : Hp) (σ : Sg) (D : Addr) (Q : VK) (ts : List T) (H : Hp) : Prop where
  ex : ∃ e F acc accV, Rel K e σ F H ∧ Step e0 e σ F0 H0 F H ∧ (∀ a o, F1 a = some o → F a = some o) ∧ F D = none ∧ H D = some (.lst accV) ∧ DpAll K F accV acc ∧ OutX K W (OdR K σ) (compS g c m vs ts acc e) e0 σ F0 H0 Q
theorem comp_read {K : PySem.W.Frag} {W : WX} {mi : SemI} {g : SemG} {c : SemT} {m : SemE} {vs : List Nat} {σ : Sg} {H : Hp} {Q : VK} (hk : GOk vs g) (h : tE K W (eComp mi g c m vs) σ H Q) :
    tLc (tI K W mi) (fun x σ H Q => ∃ B, tG K B vs g x σ H Q) (tT K W0 c) (tE K W0 m) vs σ H Q := by
  obtain ⟨e0, F0, R0, h⟩ := h
  refine tX_imp (tX_bind (rel := fun _ _ F _ J ts => Wk K F J ts) R0 .refl h) fun J H1 ⟨ts, e1, F1, R1, S1, wk, h1⟩ => ?_
  intro D hD
  have hD0 : H D = none := step_none S1 hD
  have hDF : F1 D = none := sub_none R1 hD
  have ff0 : ∀ a o, F1 a = some o → F1 a = some o := fun _ _ h => h
  refine ⟨fun i n H' => n = ts.length - i ∧ i ≤ ts.length ∧ CompN K W F1 g c m vs e0 F0 H σ D Q (ts.drop i) H', ⟨_, rfl, Nat.zero_le _, ⟨e1, F1, [], [], laid_own R1 hD, S1.trans (laid_own_step hD), ff0, hDF, upd_same, .nil, h1⟩⟩, ?_⟩
  rintro i n H' ⟨rfl, hi, ⟨e2, F2, acc, accV, R2, S2, ff2, hf, hH, d, h2⟩⟩
  obtain ⟨go, stop⟩ := wk i F2 H' ff2 R2.sub
  by_cases hlt : i < ts.length
  · have ht : ts[i]? = some ts[i] := List.getElem?_eq_getElem hlt
    rw [List.drop_eq_getElem_cons hlt] at h2
    obtain ⟨g1, y1⟩ := go _ ht
    refine .inr ⟨g1, CompN K W F1 g c m vs e0 F0 H σ D Q (ts.drop (i + 1)), fun H3 n => ⟨_, (by omega : ts.length - (i + 1) < ts.length - i), rfl, hlt, n⟩, fun x H3 y => ?_⟩
    simp only [compS] at h2
    cases q : g ts[i] (wipeE e2 vs) with
    | none => simp only [q] at h2; exact h2.elim
    | some e3 =>
      simp only [q] at h2
      obtain ⟨l3, a3⟩ := hk _ _ _ q
      have l3 : e3.length = e2.length := l3.trans (wipeE_len e2 vs)
      have D0 : ∀ {e F H3}, Step e0 e σ F0 H F H3 → ¬ Own e σ D := fun S => fresh_not_own R0 S hD0
      -- behind the target
      have next : ∀ (F3 : Hp) (H3 : Hp) (σ2 : Sg), Rel K e2 σ F3 H3 → Step e0 e2 σ F0 H F3 H3 → (∀ a o, F1 a = some o → F3 a = some o) → F3 D = none → H3 D = some (.lst accV) → DpAll K F3 accV acc → Rel K e3 σ2 F3 H3 → Agree vs (wipe σ vs) σ2 →
          wipe σ2 vs = wipe σ vs ∧ tT K W0 c σ2 H3 fun b H4 => if b = true then tE K W0 m σ2 H4 fun y H5 => ∃ acc, H5 D = some (.lst acc) ∧ acc.length < sizeLine ∧ CompN K W F1 g c m vs e0 F0 H σ D Q (ts.drop (i + 1)) (upd H5 D (.lst (acc ++ [y]))) else CompN K W F1 g c m vs e0 F0 H σ D Q (ts.drop (i + 1)) H4 := by
        intro F3 H3 σ2 R3 S3 ff3 hf3 hH3 d3 RB ag
        refine ⟨wipe_agree ag, ?_⟩
        have noD : ¬ Own e3 σ2 D := fun ⟨j, l, b, q1, q2⟩ => by
          have n : j ∉ vs ∧ e2[j]? = some (.ow l b) := by
            by_cases qv : j ∈ vs
            · rcases a3 j with z | ⟨_, t, z⟩
              · rw [q1] at z; exact absurd (wipeE_in qv z.symm) (by intro w; cases w)
              · rw [q1] at z; cases z
            · rcases a3 j with z | ⟨q', _⟩
              · rw [q1, wipeE_out qv] at z; exact ⟨qv, z.symm⟩
              · exact absurd q' qv
          exact D0 S3 ⟨j, l, b, n.2, by rw [← wipe_out n.1, ← ag.2 j n.1]; exact q2⟩
        cases wc : c e3 with
        | bad => rw [wc] at h2; exact h2.elim
        | exc _ _ _ => rw [wc] at h2; exact h2.elim
        | ok k e4 =>
        rw [wc] at h2
        have h4 : OutX K W (OdR K σ) (if k = true then (m e4).nx.bind fun r e5 => (match esc r e5 with
            | some (u, e6) => if acc.length < sizeLine then compS g c m vs (ts.drop (i + 1)) (acc ++ [u]) (restE e2 e6 vs) else .bad
            | none => .bad) else compS g c m vs (ts.drop (i + 1)) acc (restE e2 e4 vs)) e0 σ F0 H Q := h2
        refine tX_nx RB wc fun b F4 H4 R4 S4 eb => ?_
        subst eb
        obtain ⟨hD4, fD4⟩ := S4.keep D _ hH3 noD
        have fD4 := fD4 hf3
        cases b with
        | false =>
          obtain ⟨R', S'⟩ := rest_rel R3 l3 a3 ag R4 S4
          exact ⟨restE e2 e4 vs, F4, acc, accV, R', S3.trans S', fun a o h => S4.ff _ _ (ff3 _ _ h), fD4, hD4, dpAll_mono S4.ff d3, h4⟩
        | true =>
          simp only [if_true] at h4
          rw [if_pos rfl]
          cases wm : m e4 with
          | bad => rw [wm] at h4; exact h4.elim
          | exc _ _ _ => rw [wm] at h4; exact h4.elim
          | ok r e5 =>
          rw [wm] at h4
          have h5 : OutX K W (OdR K σ) (match esc r e5 with
            | some (u, e6) => if acc.length < sizeLine then compS g c m vs (ts.drop (i + 1)) (acc ++ [u]) (restE e2 e6 vs) else .bad
            | none => .bad) e0 σ F0 H Q := h4
          refine tX_nx R4 wm fun y F5 H5 R5 S5 O5 => ?_
          obtain ⟨hD5, fD5⟩ := S5.keep D _ hD4 (fun z => noD (S4.own _ z))
          have fD5 := fD5 fD4
          cases w : esc r e5 with
          | none => simp only [w] at h5; exact h5.elim
          | some te =>
            obtain ⟨u, e6⟩ := te
            simp only [w] at h5
            obtain ⟨F6, R6, S6, d6, _, only⟩ := esc_ok R4 R5 S5 O5 w
            by_cases hl : acc.length < sizeLine
            · rw [if_pos hl] at h5
              obtain ⟨R', S'⟩ := rest_rel R3 l3 a3 ag R6 (S4.trans S6)
              have dd : DpAll K F6 (accV ++ [y]) (acc ++ [u]) := dpAll_app (dpAll_mono (fun a o h => S6.ff _ _ (S4.ff _ _ h)) d3) (.cons d6 .nil)
              have fD6 : F6 D = none := (S6.keep D _ hD4 (fun z => noD (S4.own _ z))).2 fD4
              refine ⟨accV, hD5, by rw [dpAll_len d3]; exact hl, ⟨restE e2 e6 vs, F6, acc ++ [u], accV ++ [y], upd_at R' hD5 fD6 (D0 (S3.trans S')), ?_, fun a o h => S6.ff _ _ (S4.ff _ _ (ff3 _ _ h)), fD6, upd_same, dd, h5⟩⟩
              exact step_upd (S3.trans S') hD0
            · rw [if_neg hl] at h5; exact h5.elim
      have Rw := wipe_rel (vs := vs) R2
      rcases y1 x H3 y with ⟨eH, dx⟩ | ⟨p, xs, ws, ex, hp, eH, et, dx⟩
      · subst eH
        exact ⟨bd0 _ _, wipeE e2 vs, F2, _, e3, Rw, bok0, dx, q, fun σ2 R' _ ag => next F2 _ σ2 R2 S2 ff2 hf hH d R' ag⟩
      · subst eH ex
        have ff3 : ∀ a o, F2 a = some o → upd F2 p (.tup xs) a = some o := fun a o h => by rw [upd_ne (ne_of_none h (sub_none R2 hp))]; exact h
        have nD : D ≠ p := ne_of_none hH hp
        have R3 := laid_frz (o := .tup xs) R2 hp
        have S3 := laid_frz_step (o := .tup xs) R2 S2 hp
        have dd : Dp K (upd F2 p (.tup xs)) (.ref p) ts[i] := by
          rw [et]
          exact .tup upd_same (dpAll_mono ff3 dx)
        exact ⟨bd0 _ _, wipeE e2 vs, _, _, e3, wipe_rel R3, bok0, dd, q, fun σ2 R' _ ag => next _ _ σ2 R3 S3 (fun a o h => ff3 _ _ (ff2 _ _ h)) (by rw [upd_ne nD]; exact hf) (by rw [upd_ne nD]; exact hH) (dpAll_mono ff3 d) R' ag⟩
  · have he : i = ts.length := by omega
    subst he
    rw [List.drop_length] at h2
    exact .inl ⟨stop (Nat.le_refl _), h2 _ F2 H' R2 S2 ⟨D, rfl, hD0, hf, accV, hH, d⟩⟩
end Ev

set_option Elab.async false
set_option linter.all false
set_option maxRecDepth 100000
namespace Ev
open PySem PySem.Spec PyProof.Rows L2
section
variable {X : Cx} {W : WX} {a b c : Expr} {ma mb mc : SemE} {pos : Pos}
abbrev tTrue : SemT := fun e => .ok true e
abbrev QTs (X : Cx) (W : WX) (ex : List Expr) (m : SemT) : Prop := PTs X ex (tT X.K W m)
theorem qtsnil : QTs X W [] tTrue := ⟨fun pins s σ H Q I ⟨e, F, R, h⟩ => pts_nil.run pins s σ H Q I (h true F H R .refl rfl)⟩
theorem qtsone {t : SemT} (h : QT X W c t) : QTs X W [c] t := pts_one h
theorem qcomp {elt tg iter : Expr} {ifs : List Expr} {scope : Scope} {own : List (Str × Nat)} {vs : List Nat} {mi : SemI} {g : SemG} {t : SemT} {m : SemE} (hc : X.calm = true) (hN : X.N.Nodup) (hi : QI X W tg iter mi) (ok : BlkOk X.N X.env.scope scope own) (hk : GOk vs g) (hvs : own.map (·.2) = vs)
    (hg : ∀ (s : Shared) (H : Hp) (C : Addr) (cl : List (Str × Addr)) (fp : List Addr) (B : Bd), QG (X.blk s H scope (compEnvC scope cl C X.env) fp) B vs tg g) (ht : ∀ (s : Shared) (H : Hp) (C : Addr) (cl : List (Str × Addr)) (fp : List Addr), QTs (X.blk s H scope (compEnvC scope cl C X.env) fp) W0 ifs t)
    (he : ∀ (s : Shared) (H : Hp) (C : Addr) (cl : List (Str × Addr)) (fp : List Addr), QE (X.blk s H scope (compEnvC scope cl C X.env) fp) W0 elt m) (hs : ∀ x, foldedSetIterable iter X.env x = pure x := by intro _; rfl) :
    QE X W (.ListComp elt [⟨tg, iter, ifs, 0⟩] scope pos) (eComp mi g t m vs) := by
  subst hvs
  exact pe_mono (pe_lc hc hN hi ok (fun s H C cl fp => qg_any (hg s H C cl fp)) ht he hs) fun σ H Q h => comp_read hk h
theorem qsetcomp {B : Bd} {i : Nat} {y : Str} {py : Pos} {elt tg iter : Expr} {ifs : List Expr} {scope : Scope} {own : List (Str × Nat)} {spos : Pos} {vs : List Nat} {mi : SemI} {g : SemG} {t : SemT} {m : SemE} (hc : X.calm = true) (hN : X.N.Nodup) (hy : X.N[i]? = some y) (hyl : X.env.scope.names.lookup y = some .local)
    (hsw : swapsWith (.ListComp elt [⟨tg, iter, ifs, 0⟩] scope pos) (some (.Name y py)) spos.line X.env = pure true) (hi : QI X W tg iter mi) (ok : BlkOk X.N X.env.scope scope own) (hk : GOk vs g) (hvs : own.map (·.2) = vs)
    (hg : ∀ (s : Shared) (H : Hp) (C : Addr) (cl : List (Str × Addr)) (fp : List Addr) (B : Bd), QG (X.blk s H scope (compEnvC scope cl C X.env) fp) B vs tg g) (ht : ∀ (s : Shared) (H : Hp) (C : Addr) (cl : List (Str × Addr)) (fp : List Addr), QTs (X.blk s H scope (compEnvC scope cl C X.env) fp) W0 ifs t)
    (he : ∀ (s : Shared) (H : Hp) (C : Addr) (cl : List (Str × Addr)) (fp : List Addr), QE (X.blk s H scope (compEnvC scope cl C X.env) fp) W0 elt m) (hs : ∀ x, foldedSetIterable iter X.env x = pure x := by intro _; rfl) :
    QS X W B (.Assign [.Name y py] (.ListComp elt [⟨tg, iter, ifs, 0⟩] scope pos) spos) (sSet i (eComp mi g t m vs)) := by
  subst hvs
  exact ps_mono (ps_setLc hc hN hy hyl hsw hi ok (fun s H C cl fp => qg_any (hg s H C cl fp)) ht he hs) fun D σ H h => comp_read hk (asg_read h)
end
/-! ### a def -/
def okArg : Sl → Bool
  | .v _ => true
  | .ow true _ => true
  | _ => false
def finE : List Sl → En → List Sl
  | .ow true z :: ss, s' :: es => s' :: finE ss es
  | s :: ss, _ :: es => s :: finE ss es
  | ss, [] => ss
  | [], _ => []
def runFn (n : Nat) (b : SemS) : FSem := fun ss => if ss.all okArg then (match b (ss ++ List.replicate (n - ss.length) .un) with
  | .ok .nx e' => .ok (.r .none) (finE ss e')
  | .ok (.rt r) e' => .ok r (finE ss e')
  | .exc c t e' => .exc c t (finE ss e')
  | _ => .bad) else .bad
theorem finE_len : ∀ (ss : List Sl) (es : En), (finE ss es).length = ss.length
  | [], [] => rfl
  | [], _ :: _ => rfl
  | .un :: ss, [] => rfl
  | .v _ :: ss, [] => rfl
  | .fz _ :: ss, [] => rfl
  | .ow true _ :: ss, [] => rfl
  | .ow false _ :: ss, [] => rfl
  | .un :: ss, _ :: es => by simp [finE, finE_len ss es]
  | .v _ :: ss, _ :: es => by simp [finE, finE_len ss es]
  | .fz _ :: ss, _ :: es => by simp [finE, finE_len ss es]
  | .ow true _ :: ss, _ :: es => by simp [finE, finE_len ss es]
  | .ow false _ :: ss, _ :: es => by simp [finE, finE_len ss es]
theorem finE_get : ∀ {ss : List Sl} {es : En} {j : Nat} {s : Sl}, ss[j]? = some s → ((∃ z, s = .ow true z) → j < es.length) → (∃ z, s = .ow true z ∧ (finE ss es)[j]? = es[j]?) ∨ ((∀ z, s ≠ .ow true z) ∧ (finE ss es)[j]? = some s)
  | [], _, _, _, h, _ => by simp at h
  | s0 :: ss, [], j, s, h, hl => by
    have e : finE (s0 :: ss) [] = s0 :: ss := by
      cases s0 with
      | ow l z => cases l <;> rfl
      | un => rfl
      | v _ => rfl
      | fz _ => rfl
    refine .inr ⟨fun z ez => ?_, by rw [e]; exact h⟩
    have := hl ⟨z, ez⟩
    simp at this
  | s :: ss, s' :: es, 0, _, h, _ => by
    simp at h; subst h
    cases s with
    | ow l z => cases l with
      | true => exact .inl ⟨z, rfl, rfl⟩
      | false => exact .inr ⟨fun z h => (by cases h), rfl⟩
    | un => exact .inr ⟨fun z h => (by cases h), rfl⟩
    | v _ => exact .inr ⟨fun z h => (by cases h), rfl⟩
    | fz _ => exact .inr ⟨fun z h => (by cases h), rfl⟩
  | s :: ss, s' :: es, j + 1, _, h, hl => by
    have ih := finE_get (ss := ss) (es := es) (j := j) (by simpa using h) (fun q => by have := hl q; simpa using this)
    have e : (finE (s :: ss) (s' :: es))[j + 1]? = (finE ss es)[j]? := by
      cases s with
      | ow l z => cases l <;> simp [finE]
      | un => simp [finE]
      | v _ => simp [finE]
      | fz _ => simp [finE]
    rw [e]
    simpa using ih
section
variable {K : PySem.W.Frag} {F H : Hp}
theorem start_rel {N : List Str} {vs : List V} {ss : List Sl} (R : Rel K ss (vs.map some) F H) : Rel K (ss ++ List.replicate (N.length - ss.length) .un) (start N vs) F H := by
  have hl : ss.length = vs.length := by have := R.len; simpa using this
  have get : ∀ (j : Nat) (s : Sl), (ss ++ List.replicate (N.length - ss.length) Sl.un)[j]? = some s → (j < ss.length ∧ ss[j]? = some s) ∨ s = .un := fun j s h => by
    by_cases q : j < ss.length
    · rw [List.getElem?_append_left q] at h; exact .inl ⟨q, h⟩
    · rw [List.getElem?_append_right (by omega)] at h
      have := List.mem_of_getElem? h
      exact .inr (List.eq_of_mem_replicate this)
  have sg : ∀ j, j < ss.length → (start N vs)[j]? = (vs.map some)[j]? := fun j h => by
    unfold L2.start
    rw [List.getElem?_append_left (by simp; omega)]
  refine ⟨R.sub, by unfold L2.start; simp [hl], fun j s o h1 h2 => ?_, fun j j' l b l' b' p h1 h2 h3 h4 => ?_⟩
  · rcases get j s h1 with ⟨q, h⟩ | rfl
    · rw [sg j q] at h2; exact R.at_ j s o h h2
    · trivial
  · rcases get j _ h1 with ⟨q, g1⟩ | z
    · rcases get j' _ h2 with ⟨q', g2⟩ | z
      · rw [sg j q] at h3; rw [sg j' q'] at h4; exact R.ne j j' l b l' b' p g1 g2 h3 h4
      · cases z
    · cases z
theorem fin_rel {N : List Str} {vs : List V} {ss : List Sl} {e' : En} {σ' : Sg} {F' H' : Hp} (R : Rel K ss (vs.map some) F H) (R' : Rel K e' σ' F' H') (k : BOk ⟨ss ++ List.replicate (N.length - ss.length) .un, start N vs, F, H⟩ e' σ' F' H')
    (ha : ss.all okArg = true) : Rel K (finE ss e') (vs.map some) F' H' ∧ Step ss (finE ss e') (vs.map some) F H F' H' := by
  have hl : ss.length = vs.length := by have := R.len; simpa using this
  have sg : ∀ j, j < ss.length → (start N vs)[j]? = (vs.map some)[j]? := fun j h => by
    unfold L2.start
    rw [List.getElem?_append_left (by simp; omega)]
  have e0 : ∀ j, j < ss.length → (ss ++ List.replicate (N.length - ss.length) Sl.un)[j]? = ss[j]? := fun j h => List.getElem?_append_left h
  have lentLt : ∀ (j : Nat) (z : Bx), ss[j]? = some (.ow true z) → j < e'.length := fun j z h => by
    have hj := (List.getElem?_eq_some_iff.mp h).1
    obtain ⟨⟨b, q⟩, _⟩ := k.lent j z (by show (ss ++ _)[j]? = _; rw [e0 j hj, h])
    rcases q with q | q
    · exact (List.getElem?_eq_some_iff.mp q).1
    · exact (List.getElem?_eq_some_iff.mp q).1
  have get : ∀ (j : Nat) (s : Sl), (finE ss e')[j]? = some s → ∃ s0, ss[j]? = some s0 ∧ j < ss.length ∧ ((∃ z, s0 = .ow true z ∧ e'[j]? = some s ∧ Lent e' j ∧ σ'[j]? = (vs.map some)[j]?) ∨ (s = s0 ∧ ∃ t, s = .v t)) := fun j s h => by
    have hj : j < ss.length := by have := (List.getElem?_eq_some_iff.mp h).1; rw [finE_len] at this; exact this
    have hs : ss[j]? = some ss[j] := List.getElem?_eq_getElem hj
    refine ⟨_, hs, hj, ?_⟩
    rcases finE_get (es := e') hs (fun ⟨z, q⟩ => lentLt j z (by rw [hs, q])) with ⟨z, q, w⟩ | ⟨q, w⟩
    · have hL := k.lent j z (by show (ss ++ _)[j]? = _; rw [e0 j hj, hs, q])
      exact .inl ⟨z, q, by rw [← w, h], hL.1, by rw [hL.2]; exact sg j hj⟩
    · rw [h] at w
      cases w
      have hm : okArg ss[j] = true := List.all_eq_true.mp ha _ (List.getElem_mem hj)
      cases w2 : ss[j] with
      | v t => exact .inr ⟨rfl, t, rfl⟩
      | un => rw [w2] at hm; cases hm
      | fz _ => rw [w2] at hm; cases hm
      | ow l z => cases l with
        | true => exact absurd w2 (q z)
        | false => rw [w2] at hm; cases hm
  have kind : SameKinds ss (finE ss e') := fun j l b h => by
    obtain ⟨s0, h0, hj, q⟩ := get j _ h
    rcases q with ⟨z, ez, he, ⟨b', lent⟩, _⟩ | ⟨_, t, et⟩
    · rw [he] at lent
      rcases lent with lent | lent
      · cases lent; exact ⟨z, by rw [h0, ez]⟩
      · cases lent
    · cases et
  have owB : ∀ a, Own (ss ++ List.replicate (N.length - ss.length) .un) (start N vs) a → Own ss (vs.map some) a := fun a ⟨j, l, b, h1, h2⟩ => by
    by_cases q : j < ss.length
    · rw [e0 j q] at h1; rw [sg j q] at h2; exact ⟨j, l, b, h1, h2⟩
    · rw [List.getElem?_append_right (by omega)] at h1
      have := List.eq_of_mem_replicate (List.mem_of_getElem? h1)
      cases this
  refine ⟨⟨R'.sub, by rw [finE_len, hl]; simp, fun j s o g1 g2 => ?_, fun j j' l b l' b' p g1 g2 g3 g4 => ?_⟩, ⟨k.ff, fun a o h n => k.keep a o h fun z => n (owB a z), k.dom, fun p ⟨j, l, b, g1, g2⟩ => ?_, fun j hj => ?_, kind⟩⟩
  · obtain ⟨s0, h0, hj, q⟩ := get j _ g1
    rcases q with ⟨z, ez, he, _, hs⟩ | ⟨es, t, et⟩
    · exact R'.at_ j s o he (by rw [hs]; exact g2)
    · have w := R.at_ j s o (by rw [es]; exact h0) g2
      subst et
      obtain ⟨y, ey, d⟩ := w
      exact ⟨y, ey, dp_mono k.ff _ _ d⟩
  · obtain ⟨s0, h0, hj, q⟩ := get j _ g1
    obtain ⟨s0', h0', hj', q'⟩ := get j' _ g2
    rcases q with ⟨z, ez, he, _, hs⟩ | ⟨es, t, et⟩
    · rcases q' with ⟨z', ez', he', _, hs'⟩ | ⟨es, t, et⟩
      · exact R'.ne j j' l b l' b' p he he' (by rw [hs]; exact g3) (by rw [hs']; exact g4)
      · cases et
    · cases et
  · obtain ⟨b', q⟩ := kind j l b g1
    exact ⟨j, l, b', q, g2⟩
  · obtain ⟨b, hb⟩ := hj
    rcases hb with hb | hb
    · have hjl : j < ss.length := (List.getElem?_eq_some_iff.mp hb).1
      have hL := k.lent j b (by show (ss ++ _)[j]? = _; rw [e0 j hjl, hb])
      rcases finE_get (es := e') hb (fun ⟨z, q⟩ => lentLt j z (by rw [hb, q])) with ⟨z, _, w⟩ | ⟨w, _⟩
      · obtain ⟨b', q⟩ := hL.1
        exact ⟨b', by rw [w]; exact q⟩
      · exact absurd rfl (w b)
    · have hjl : j < ss.length := (List.getElem?_eq_some_iff.mp hb).1
      have hm : okArg (.fz b) = true := List.all_eq_true.mp ha _ (List.mem_of_getElem? hb)
      cases hm
end
theorem fn_ok {P : Program} {w : World} {K : PySem.W.Frag} {mg : Str → Option Value} {base : Heap} {x qual : Str} {params : Arguments} {body : List Stmt} {scope : Scope} {f : Addr} {fd : FuncData} {N ps : List Str} {k : Nat} {b : SemS}
    (Fn : FunD K x qual params body scope [] [] f fd) (S : FnScope N ps scope)
    (hb : ∀ (cdv : Value) (A : Around) (outer : List Env) (s : Shared) (H : Hp) (E : XK), Room k (A.deeper (envOfC qual scope s.heap.objs.size f cdv)) →
      ∀ B, QSs (cxOf (L2N.CX P w) P w K mg base N qual scope f cdv A outer s H E) (fun cls d _ H => E cls d H) B body b) :
    FnOk P w K mg base (L2N.CX P w) (k + 1) f fd ps (spF K ps.length (runFn N.length b)) := by
  refine Fn.ok S (fun vs H Q E h => h.1) fun cdv A outer s H vs Q E hr ⟨hlen, ss, F, R, h⟩ => ?_
  have hl : ss.length = vs.length := by have := R.len; simpa using this
  have hN : ps.length ≤ N.length := by have := congrArg List.length S.pre; rw [List.length_take] at this; omega
  unfold runFn at h
  by_cases ha : ss.all okArg = true
  · rw [if_pos ha] at h
    refine ⟨_, hb cdv A outer s H E hr ⟨ss ++ List.replicate (N.length - ss.length) Sl.un, L2.start N vs, F, H⟩, ss ++ List.replicate (N.length - ss.length) Sl.un, F, start_rel (N := N) R, ?_, ?_⟩
    · refine ⟨fun _ _ h => h, fun a o h _ => ⟨h, fun z => z⟩, fun a o h => ⟨o, h⟩, fun i b p h1 _ => ?_, fun i b h => ⟨rfl, b, h⟩, fun i b h => ⟨⟨b, .inl h⟩, rfl⟩⟩
      by_cases q : i < ss.length
      · rw [List.getElem?_append_left q] at h1
        have := List.all_eq_true.mp ha _ (List.mem_of_getElem? h1)
        cases this
      · rw [List.getElem?_append_right (by omega)] at h1
        have := List.eq_of_mem_replicate (List.mem_of_getElem? h1)
        cases this
    · cases q : b (ss ++ List.replicate (N.length - ss.length) .un) with
      | bad => rw [q] at h; exact h
      | exc c t e' =>
        rw [q] at h
        intro σ' F' H' cls d R' k' ex
        obtain ⟨a1, a2⟩ := fin_rel R R' k' ha
        exact h F' H' cls d a1 a2 ex
      | ok f e' =>
        rw [q] at h
        cases f with
        | bk => exact h.elim
        | ct => exact h.elim
        | nx =>
          intro σ' F' H' R' k'
          obtain ⟨a1, a2⟩ := fin_rel R R' k' ha
          exact h _ F' H' a1 a2 .non
        | rt r =>
          intro x σ' F' H' R' k' o
          obtain ⟨a1, a2⟩ := fin_rel R R' k' ha
          refine h _ F' H' a1 a2 ?_
          cases r with
          | r t => exact o
          | b z => exact o
          | s i => cases o
  · rw [if_neg ha] at h; exact h.elim
end Ev

set_option Elab.async false
set_option linter.all false
set_option maxRecDepth 100000
namespace Ev
open PySem PySem.Spec PyProof.Rows L2
/-! ### a, b = x, y: names -/
/-- what names alone hold is let go -/
def presc : List Od → En → Option (List Od × En)
  | [], e => some ([], e)
  | .s i :: rs, e => match esc (.s i) e with
    | some (t, e1) => (match presc rs e1 with
      | some (rs', e2) => some (.r t :: rs', e2)
      | none => none)
    | none => none
  | r :: rs, e => match presc rs e with
    | some (rs', e2) => some (r :: rs', e2)
    | none => none
def noS : List Od → Prop
  | [] => True
  | .s _ :: _ => False
  | _ :: rs => noS rs
theorem presc_ok {K : PySem.W.Frag} {σ : Sg} {e0 : En} {F0 H0 H : Hp} (R0 : Rel K e0 σ F0 H0) : ∀ {rs rs' : List Od} {xs : List V} {e e' : En} {F : Hp}, Rel K e σ F H → Step e0 e σ F0 H0 F H → OdsR K σ H0 F H rs xs → presc rs e = some (rs', e') →
    ∃ F', Rel K e' σ F' H ∧ Step e0 e' σ F0 H0 F' H ∧ OdsR K σ H0 F' H rs' xs ∧ noS rs' ∧ (∀ a o, F a = some o → F' a = some o) ∧ (∀ (j : Nat) (z : Bx), rs'[j]? = some (.b z) → rs[j]? = some (.b z)) ∧ ∀ a, H0 a = none → F' a = F a
  | [], _, _, _, _, F, R, S, .nil, h => by cases h; exact ⟨F, R, S, .nil, trivial, fun _ _ h => h, fun j z h => h, fun _ _ => rfl⟩
  | .s i :: rs, _, _, e, _, F, R, S, .cons (x := x) (xs := xs) a b n, h => by
    unfold presc at h
    cases q : esc (.s i) e with
    | none => rw [q] at h; cases h
    | some te =>
      obtain ⟨t, e1⟩ := te
      simp only [q] at h
      cases q2 : presc rs e1 with
      | none => rw [q2] at h; cases h
      | some te2 =>
        obtain ⟨rs', e2⟩ := te2
        simp only [q2] at h
        cases h
        obtain ⟨F1, R1, S1, d1, ff1, only⟩ := esc_ok R0 R S a q
        have b1 : OdsR K σ H0 F1 H rs xs := ods_grow ff1 b fun p j z hj hx hn => by
          rcases only p with e | ⟨ex, e | e⟩
          · exact e
          · obtain ⟨z', e'⟩ := e; cases e'
          · exact absurd (S.own _ e) (fun w => by obtain ⟨_, o, q⟩ := R0.owned w; rw [hn] at q; cases q)
        obtain ⟨F2, R2, S2, d2, ns, ff2, bs, same⟩ := presc_ok R0 R1 S1 b1 q2
        refine ⟨F2, R2, S2, .cons (dp_mono ff2 _ _ d1) d2 (fun z p hr => by cases hr), ns, fun a o h => ff2 _ _ (ff1 _ _ h), fun j z h => ?_, fun a hn => ?_⟩
        · cases j with
          | zero => simp at h
          | succ j => simpa using bs j z (by simpa using h)
        · rw [same a hn]
          rcases only a with e | ⟨ex, e | e⟩
          · exact e
          · obtain ⟨z', e'⟩ := e; cases e'
          · exact absurd (S.own _ e) (fun w => by obtain ⟨_, o, q⟩ := R0.owned w; rw [hn] at q; cases q)
  | .r t :: rs, _, _, e, _, F, R, S, .cons (x := x) (xs := xs) a b n, h => by
    unfold presc at h
    cases q2 : presc rs e with
    | none => rw [q2] at h; cases h
    | some te2 =>
      obtain ⟨rs', e2⟩ := te2
      simp only [q2] at h
      cases h
      obtain ⟨F2, R2, S2, d2, ns, ff2, bs, same⟩ := presc_ok R0 R S b q2
      refine ⟨F2, R2, S2, .cons (dp_mono ff2 _ _ a) d2 (fun z p hr => by cases hr), ns, ff2, fun j z h => ?_, same⟩
      cases j with
      | zero => simp at h
      | succ j => simpa using bs j z (by simpa using h)
  | .b z0 :: rs, _, _, e, _, F, R, S, .cons (x := x) (xs := xs) a b n, h => by
    unfold presc at h
    cases q2 : presc rs e with
    | none => rw [q2] at h; cases h
    | some te2 =>
      obtain ⟨rs', e2⟩ := te2
      simp only [q2] at h
      cases h
      obtain ⟨F2, R2, S2, d2, ns, ff2, bs, same⟩ := presc_ok R0 R S b q2
      have a2 : OdR K σ H0 F2 H x (.b z0) := by
        obtain ⟨p, ep, hn, hf, bx⟩ := a
        exact ⟨p, ep, hn, by rw [same p hn]; exact hf, bx_keep bx ff2 fun _ h => h⟩
      refine ⟨F2, R2, S2, .cons a2 d2 (fun z p hr hx j z' hj => n z p hr hx j z' (bs j z' hj)), ns, ff2, fun j z h => ?_, same⟩
      cases j with
      | zero => simpa using h
      | succ j => simpa using bs j z (by simpa using h)
section
variable {K : PySem.W.Frag} {W : WX} {B : Bd} {e e1 : En} {σ : Sg} {F H H0 : Hp}
theorem put_ok {i : Nat} {r : Od} {x : V} {e' : En} (R : Rel K e σ F H) (k : BOk B e σ F H) (hB : ∀ p, H0 p = none → B.H p = none) (O : OdR K σ H0 F H x r) (ns : ∀ j, r ≠ .s j) (no : ∀ p z, r = .b z → x = .ref p → ¬ Own e σ p) (h : setO i r e = .ok .nx e') :
    Rel K e' (σ.set i (some x)) F H ∧ BOk B e' (σ.set i (some x)) F H ∧ ∀ q, Own e' (σ.set i (some x)) q → Own e σ q ∨ ∃ z, r = .b z ∧ x = .ref q := by
  unfold setO at h
  cases l : isLent e i with
  | true => rw [l] at h; cases h
  | false =>
    rw [l, if_neg (by decide)] at h
    have n := isLent_no l
    cases r with
    | s j => exact absurd rfl (ns j)
    | r t =>
      simp only [esc] at h
      cases h
      obtain ⟨a, b⟩ := set_v R k O n
      refine ⟨a, b, fun q ⟨j, l', b', q1, q2⟩ => .inl ?_⟩
      by_cases ij : i = j
      · subst ij
        have hi : i < e.length := by have := (List.getElem?_eq_some_iff.mp q1).1; simpa using this
        rw [List.getElem?_set_self hi] at q1; cases q1
      · rw [List.getElem?_set_ne ij] at q1 q2; exact ⟨j, l', b', q1, q2⟩
    | b z =>
      cases h
      obtain ⟨p, rfl, hn, hf, bx⟩ := O
      obtain ⟨a, b⟩ := set_b R k hf bx (hB p hn) (no p z rfl rfl) n
      refine ⟨a, b, fun q ⟨j, l', b', q1, q2⟩ => ?_⟩
      by_cases ij : i = j
      · subst ij
        have hi : i < e.length := by have := (List.getElem?_eq_some_iff.mp q1).1; simpa using this
        rw [List.getElem?_set_self (by rw [← R.len]; exact hi)] at q2
        cases q2
        exact .inr ⟨z, rfl, rfl⟩
      · rw [List.getElem?_set_ne ij] at q1 q2; exact .inl ⟨j, l', b', q1, q2⟩
def setOs : List Nat → List Od → En → Option En
  | [], [], e => some e
  | i :: is, r :: rs, e => match setO i r e with
    | .ok .nx e1 => setOs is rs e1
    | _ => none
  | _, _, _ => none
def setsσ : List Nat → List V → Sg → Sg
  | i :: is, x :: xs, σ => setsσ is xs (σ.set i (some x))
  | _, _, σ => σ
theorem sets_ok : ∀ {is : List Nat} {rs : List Od} {xs : List V} {e e' : En} {σ σ0 : Sg}, Rel K e σ F H → BOk B e σ F H → (∀ p, H0 p = none → B.H p = none) → OdsR K σ0 H0 F H rs xs → noS rs → (∀ p (j : Nat) z, rs[j]? = some (.b z) → xs[j]? = some (.ref p) → ¬ Own e σ p) → setOs is rs e = some e' →
    Rel K e' (setsσ is xs σ) F H ∧ BOk B e' (setsσ is xs σ) F H
  | [], [], _, _, _, _, _, R, k, _, .nil, _, _, h => by cases h; exact ⟨R, k⟩
  | [], _ :: _, _, _, _, _, _, _, _, _, _, _, _, h => by cases h
  | _ :: _, [], _, _, _, _, _, _, _, _, _, _, _, h => by cases h
  | i :: is, r :: rs, _, e, _, σ, σ0, R, k, hB, .cons (x := x) (xs := xs) a b n, ns, no, h => by
    unfold setOs at h
    cases q : setO i r e with
    | bad => rw [q] at h; cases h
    | exc _ _ _ => rw [q] at h; cases h
    | ok f e1 =>
      rw [q] at h
      cases f with
      | rt _ => cases h
      | bk => cases h
      | ct => cases h
      | nx =>
        have nsr : (∀ j, r ≠ .s j) ∧ noS rs := by
          cases r with
          | s j => exact ns.elim
          | r t => exact ⟨(fun j q => by cases q), ns⟩
          | b z => exact ⟨(fun j q => by cases q), ns⟩
        have a' : OdR K σ H0 F H x r := by
          cases r with
          | s j => exact ns.elim
          | r t => exact a
          | b z => exact a
        obtain ⟨R1, k1, ow⟩ := put_ok R k hB a' nsr.1 (fun p z er ex => no p 0 z (by rw [er]; rfl) (by rw [ex]; rfl)) q
        refine sets_ok (is := is) (rs := rs) (xs := xs) R1 k1 hB b nsr.2 (fun p j z hj hx hO => ?_) h
        rcases ow p hO with w | ⟨z', er, ex⟩
        · exact no p (j + 1) z (by simpa using hj) (by simpa using hx) w
        · exact n z' p er ex j z hj hx
end
section
variable {X : Cx} {W : WX} {B : Bd} {a b c : Expr} {ma mb mc : SemE} {pos : Pos}
/-- names = values, all at once -/
def sPar (is : List Nat) (m : SemA) : SemS := fun e => (m e).bind fun rs e1 => match presc rs e1 with
  | some (rs', e2) => (match setOs is rs' e2 with
    | some e3 => .ok .nx e3
    | none => .bad)
  | none => .bad
theorem par_read {is : List Nat} {m : SemA} {K : PySem.W.Frag} {D : Ends} {σ : Sg} {H : Hp} (h : tS K W B (sPar is m) D σ H) : tA K W m σ H fun xs H1 => xs.length = is.length ∧ D.nx (setsσ is xs σ) H1 ∧ ∀ p o, H1 p = none → D.nx (setsσ is xs σ) (upd H1 p o) := by
  obtain ⟨e, F, R, k, h⟩ := h
  refine tX_imp (tS_bind (rel := fun σ Hs F H xs rs => OdsR K σ Hs F H rs xs) R k h) fun xs H1 ⟨rs, e1, F1, R1, S1, k1, O, h1⟩ => ?_
  cases q : presc rs e1 with
  | none => simp only [q] at h1; exact h1.elim
  | some te =>
    obtain ⟨rs', e2⟩ := te
    simp only [q] at h1
    obtain ⟨F2, R2, S2, O2, ns, _, _, _⟩ := presc_ok R R1 S1 O q
    have k2 := k.step S2
    cases q2 : setOs is rs' e2 with
    | none => simp only [q2] at h1; exact h1.elim
    | some e3 =>
      simp only [q2] at h1
      have hB : ∀ p, H p = none → B.H p = none := fun p hn => by
        cases q : B.H p with
        | none => rfl
        | some o => obtain ⟨o', e'⟩ := k.dom _ _ q; rw [hn] at e'; cases e'
      have no : ∀ {F' H'}, OdsR K σ H F' H' rs' xs → ∀ p (j : Nat) z, rs'[j]? = some (.b z) → xs[j]? = some (.ref p) → ¬ Own e2 σ p := fun O2 p j z hj hx => by
        obtain ⟨p', hx', hn, _⟩ := ods_tmp O2 j z hj
        rw [hx] at hx'; cases hx'
        exact fresh_not_own R S2 hn
      have len : ∀ {is : List Nat} {rs : List Od} {e e' : En}, setOs is rs e = some e' → is.length = rs.length := by
        intro is
        induction is with
        | nil => intro rs e e' h; cases rs with
          | nil => rfl
          | cons _ _ => cases h
        | cons i is ih => intro rs e e' h; cases rs with
          | nil => cases h
          | cons r rs =>
            unfold setOs at h
            split at h
            · simp [ih h]
            · cases h
      refine ⟨by rw [len q2, ods_len O2], ?_, fun p o hp => ?_⟩
      · obtain ⟨R3, k3⟩ := sets_ok R2 k2 hB O2 ns (no O2) q2
        exact h1 _ _ _ R3 k3
      · have R2' := laid_own (o := o) R2 hp
        have k2' := k2.step (laid_own_step (e := e2) (σ := σ) (F := F2) (o := o) hp)
        have O2' : OdsR K σ H F2 (upd H1 p o) rs' xs := by
          have mono : ∀ {rs xs}, OdsR K σ H F2 H1 rs xs → OdsR K σ H F2 (upd H1 p o) rs xs := by
            intro rs xs O
            induction O with
            | nil => exact .nil
            | cons a b n ih =>
              refine .cons ?_ ih n
              rename_i r x _ _
              cases r with
              | r t => exact a
              | s i => exact a
              | b z =>
                obtain ⟨p', ep, hn, hf, bx⟩ := a
                exact ⟨p', ep, hn, hf, bx_keep bx (fun _ _ h => h) fun o' h' => by rw [upd_ne (ne_of_none h' hp)]; exact h'⟩
          exact mono O2
        obtain ⟨R3, k3⟩ := sets_ok R2' k2' hB O2' ns (no O2') q2
        exact h1 _ _ _ R3 k3
theorem qpar2 {i j : Nat} {x y : Str} {px py pt : Pos} {kt k2 pt2} {m : SemA} (hc : X.calm = true) (hN : X.N.Nodup) (hi : X.N[i]? = some x) (hj : X.N[j]? = some y) (hij : i ≠ j)
    (hx : X.env.scope.names.lookup x = some .local) (hy : X.env.scope.names.lookup y = some .local) (ha : QA X W [a, b] m)
    (hw : swappedStores [.Tuple [.Name x px, .Name y py] kt pt] (.Tuple [a, b] k2 pt2) X.env = pure (some [x, y]))
    (hs : swapsWithSole [.Tuple [.Name x px, .Name y py] kt pt] (.Tuple [a, b] k2 pt2) pos.line X.env = pure false := by rfl) :
    QS X W B (.Assign [.Tuple [.Name x px, .Name y py] kt pt] (.Tuple [a, b] k2 pt2) pos) (sPar [i, j] m) :=
  ps_mono (ps_par hc hN hi hj hij hx hy ha hw hs) fun D σ H h => tX_imp (par_read h) fun xs H1 ⟨hl, q, _⟩ => by
    match xs, hl, q with
    | [v, w], _, q => exact ⟨v, w, rfl, q⟩
/-- by the tuple -/
theorem qparT {tgs es : List Expr} {is : List Nat} {m : SemA} {kt k2 : Nat} {pt pt2 : Pos} {gs : TGs} (hc : X.calm = true) (ha : QA X W es m) (hg : PGs X tgs gs) (hgs : ∀ xs σ H Q, xs.length = is.length → Q (setsσ is xs σ) H → gs xs σ H Q) (hlen : is.length ≤ sizeLine)
    (hs : swapsWithSole [.Tuple tgs kt pt] (.Tuple es k2 pt2) pos.line X.env = pure false := by rfl) (hw : swappedStores [.Tuple tgs kt pt] (.Tuple es k2 pt2) X.env = pure none := by rfl)
    (h1 : (assignEach [.Tuple tgs kt pt] X.env).map (·.2) = [assign (.Tuple tgs kt pt) X.env] := by rfl) (hn : (assignEach tgs X.env).length = is.length := by rfl) (hst : (assignEach tgs X.env).findIdx? (·.1) = none := by rfl) :
    QS X W B (.Assign [.Tuple tgs kt pt] (.Tuple es k2 pt2) pos) (sPar is m) :=
  ps_mono (ps_asg (pe_tup ha) (pg_tup hc hg hn hst) hs hw h1) fun D σ H h => tX_imp (par_read h) fun xs H1 ⟨hl, _, q⟩ =>
    ⟨by rw [hl]; exact hlen, fun p hp => ⟨p, xs, rfl, SqT.of upd_same, hl, hgs _ _ _ _ hl (q p _ hp)⟩⟩
def gsNames : List Nat → TGs
  | [] => gNil
  | i :: is => gCons (gName i) (gsNames is)
theorem gsNames_ok : ∀ (is : List Nat) (xs : List V) (σ : Sg) (H : Hp) (Q : Sg → Hp → Prop), xs.length = is.length → Q (setsσ is xs σ) H → gsNames is xs σ H Q
  | [], [], σ, H, Q, _, h => ⟨rfl, h⟩
  | [], _ :: _, _, _, _, h, _ => by cases h
  | _ :: _, [], _, _, _, h, _ => by cases h
  | i :: is, x :: xs, σ, H, Q, hl, h => ⟨x, xs, rfl, gsNames_ok is xs _ H Q (by simpa using hl) h⟩
end
end Ev

set_option Elab.async false
set_option linter.all false
set_option maxRecDepth 100000
namespace Ev
open PySem PySem.Spec PyProof.Rows L2
section
variable {X : Cx} {W : WX} {B : Bd} {a b c : Expr} {ma mb mc : SemE} {pos : Pos}
/-! ### calls -/
/-! ### x.index(y) -/
def findT (ts : List T) (u : T) : Option Nat := ts.findIdx? fun z => PyData.eqv z u
def eIndex (mo : SemE) (ma : SemA) : SemE := fun e => (mo e).bind fun r e1 => match r.val e1 with
  | some (.list _) => (ma e1).bind fun rs e2 => (match r.val e2, vals e2 rs with
    | some (.list ts), some [u] => if SeqAt.shaped (.list ts) && SeqAt.shaped u then (match findT ts u with
      | some j => .ok (.r (.int (j : Nat))) e2
      | none => .bad) else .bad
    | _, _ => .bad)
  | _ => .bad
/-! ### x[i] = v of a list that a name alone holds -/
def sSetIx (i : Nat) (mi mv : SemE) : SemS := fun e => (mv e).bind fun r e1 => match e1[i]? with
  | some (.ow _ (.l _)) => (mi e1).bind fun ri e2 => (match ri.val e2, esc r e2 with
    | some (.int k), some (t, e3) => (match e3[i]? with
      | some (.ow l (.l ts)) => (match ixN ts.length k with
        | some j => .ok .nx (e3.set i (.ow l (.l (ts.set j t))))
        | none => .bad)
      | _ => .bad)
    | _, _ => .bad)
  | _ => .bad
theorem qsetix {i : Nat} {x : Str} {p p' : Pos} {ix v : Expr} {mi mv : SemE} (hN : X.N[i]? = some x) (hv : Vis X.env.scope x) (hi : QE X W ix mi) (hval : QE X W v mv) (hd : (x == ("__debug__" : Str)) = false := by decide) (hcd : (x == ("__classdict__" : Str)) = false := by decide)
    (ha : ∀ w, assign (.Subscript (.Name x p) ix p') X.env w = (do
      let ov ← holding [w] (eval (.Name x p) X.env)
      let iv ← holding [w, ov] (eval ix X.env)
      standAt p'
      holding [w, ov, iv] (setItem ov iv w)
      release [w, ov, iv] []) := by intro _; rfl)
    (hs : swapsWithSole [.Subscript (.Name x p) ix p'] v pos.line X.env = pure false := by rfl) (hw : swappedStores [.Subscript (.Name x p) ix p'] v X.env = pure none := by rfl)
    (h1 : (assignEach [.Subscript (.Name x p) ix p'] X.env).map (·.2) = [assign (.Subscript (.Name x p) ix p') X.env] := by rfl) : QS X W B (.Assign [.Subscript (.Name x p) ix p'] v pos) (sSetIx i mi mv) := by
  refine ps_mono (ps_asg hval (pg_sub (pe_var hN hv hd hcd) hi set_list ha) hs hw h1) fun D σ H h => ?_
  obtain ⟨e, F, R, k, h⟩ := h
  refine tX_imp (tS_bind (rel := fun σ => OdR X.K σ) R k h) fun y H1 ⟨r, e1, F1, R1, S1, k1, O1, h1⟩ => ?_
  split at h1
  rename_i l0 ts0 q0
  obtain ⟨o, hs0, p, ep, _⟩ := R1.var q0
  subst ep
  refine ⟨_, hs0, tX_imp (tS_bind (B := B) (m := mi) (rel := fun σ => OdR X.K σ) R1 k1 h1) fun iv H2 ⟨ri, e2, F2, R2, S2, k2, O2, h2⟩ => ?_⟩
  have O1' := od_stay O1 (fun p hp => fresh_not_own R S1 hp) S2
  split at h2
  · rename_i kk t e3 q1 q2
    have d := val_ok R2 O2 q1
    cases d
    obtain ⟨F3, R3, S3, d3, _⟩ := esc_ok R R2 (S1.trans S2) O1' q2
    split at h2
    · rename_i l ts q3
      cases q4 : ixN ts.length kk with
      | none => simp only [q4] at h2; exact h2.elim
      | some j =>
        simp only [q4] at h2
        obtain ⟨p', ep, hf, xs, hx, dd⟩ := R3.at_ i _ _ q3 hs0
        cases ep
        refine ⟨p, xs, kk, j, rfl, rfl, hx, by rw [dpAll_len dd]; exact q4, ?_⟩
        obtain ⟨R4, S4⟩ := upd_own R3 q3 hs0 (dpAll_set d3 j dd)
        exact h2 σ F3 _ R4 ((k.step S3).step S4)
    · exact h2.elim
  · exact h2.elim
  · exact h1.elim
end
end Ev

set_option Elab.async false
set_option linter.all false
set_option maxRecDepth 100000
namespace Ev
open PySem PySem.Spec PyProof.Rows L2
section
variable {X : Cx} {W : WX} {B : Bd} {a b c : Expr} {ma mb mc : SemE} {pos : Pos}
/-! ### f(k = v, ..): keywords alone -/
abbrev QK (X : Cx) (W : WX) (kws : List Keyword) (m : SemA) : Prop := PK X kws (tA X.K W m)
theorem pk_mono {kws : List Keyword} {t t' : TA} (h : PK X kws t) (m : ∀ σ H Q, t' σ H Q → t σ H Q) : PK X kws t' := ⟨fun pos pins s σ H Q I q => h.run pos pins s σ H Q I (m σ H Q q)⟩
theorem qk_nil : QK X W [] aNil := pk_mono pk_nil fun σ H Q ⟨e, F, R, h⟩ => h _ F H R .refl .nil
theorem qk_cons {kws : List Keyword} {mr : SemA} {nm : Option Str} {kpos : Pos} (ha : QE X W a ma) (hr : QK X W kws mr) : QK X W (⟨nm, a, kpos⟩ :: kws) (aCons ma mr) := by
  refine pk_mono (pk_cons ha hr) fun σ H Q h => ?_
  obtain ⟨e, F, R, h⟩ := h
  refine tX_imp (tX_bind R .refl h) fun x H1 ⟨r, e1, F1, R1, S1, O1, h1⟩ => ?_
  refine tX_imp (tX_bind (rel := fun σ Hs F H xs rs => OdsR X.K σ Hs F H rs xs) R1 S1 h1) fun xs H2 ⟨rs, e2, F2, R2, S2, O2, h2⟩ => ?_
  refine h2 _ F2 H2 R2 (S1.trans S2) (.cons (od_stay O1 (fun p hp => fresh_not_own R S1 hp) S2) (ods_back S1 O2) fun z p er ex j z' hj hx => ?_)
  subst er
  obtain ⟨p', ep, hn, hf, bx⟩ := O1
  rw [ex] at ep; cases ep
  obtain ⟨q, hq, hn2, _⟩ := ods_tmp O2 j z' hj
  rw [hx] at hq; cases hq
  obtain ⟨o, ho⟩ := bx_some bx
  rw [hn2] at ho; cases ho
def pick {α : Type} (perm : List Nat) (l : List α) : List α := perm.filterMap (l[·]?)
theorem pick_ods {K : PySem.W.Frag} {σ : Sg} {Hs F H : Hp} {rs : List Od} {xs : List V} (O : OdsR K σ Hs F H rs xs) : ∀ {perm : List Nat}, perm.Nodup → OdsR K σ Hs F H (pick perm rs) (pick perm xs)
  | [], _ => .nil
  | i :: perm, nd => by
    have ih := pick_ods O (List.nodup_cons.mp nd).2
    by_cases hi : i < rs.length
    · have h1 : rs[i]? = some rs[i] := List.getElem?_eq_getElem hi
      obtain ⟨x, hx, o⟩ := ods_get O h1
      have e1 : pick (i :: perm) rs = rs[i] :: pick perm rs := by unfold pick; rw [List.filterMap_cons, h1]
      have e2 : pick (i :: perm) xs = x :: pick perm xs := by unfold pick; rw [List.filterMap_cons, hx]
      rw [e1, e2]
      refine .cons o ih fun z p er ex j z' hj hxj => ?_
      subst ex
      -- the j-th of the picked ones stands at some place of perm
      have key : ∀ {perm : List Nat} {j : Nat}, (pick perm rs)[j]? = some (.b z') → (pick perm xs)[j]? = some (.ref p) → ∃ k ∈ perm, rs[k]? = some (.b z') ∧ xs[k]? = some (.ref p) := by
        intro perm
        induction perm with
        | nil => intro j h _; simp [pick] at h
        | cons k perm ih2 =>
          intro j h1 h2
          by_cases hk : k < rs.length
          · have g1 : rs[k]? = some rs[k] := List.getElem?_eq_getElem hk
            obtain ⟨y, hy, _⟩ := ods_get O g1
            have f1 : pick (k :: perm) rs = rs[k] :: pick perm rs := by unfold pick; rw [List.filterMap_cons, g1]
            have f2 : pick (k :: perm) xs = y :: pick perm xs := by unfold pick; rw [List.filterMap_cons, hy]
            rw [f1] at h1; rw [f2] at h2
            cases j with
            | zero => simp at h1 h2; exact ⟨k, List.mem_cons_self, by rw [g1, h1], by rw [hy, h2]⟩
            | succ j =>
              obtain ⟨k', m, q⟩ := ih2 (j := j) (by simpa using h1) (by simpa using h2)
              exact ⟨k', List.mem_cons_of_mem _ m, q⟩
          · have g1 : rs[k]? = none := List.getElem?_eq_none (by omega)
            have g2 : xs[k]? = none := List.getElem?_eq_none (by rw [← ods_len O]; omega)
            have f1 : pick (k :: perm) rs = pick perm rs := by unfold pick; rw [List.filterMap_cons, g1]
            have f2 : pick (k :: perm) xs = pick perm xs := by unfold pick; rw [List.filterMap_cons, g2]
            rw [f1] at h1; rw [f2] at h2
            obtain ⟨k', m, q⟩ := ih2 (j := j) h1 h2
            exact ⟨k', List.mem_cons_of_mem _ m, q⟩
      obtain ⟨k, hk, q1, q2⟩ := key hj hxj
      have := ods_ne O (h1.trans (by rw [er])) q1 hx q2
      subst this
      exact (List.nodup_cons.mp nd).1 hk
    · have g1 : rs[i]? = none := List.getElem?_eq_none (by omega)
      have g2 : xs[i]? = none := List.getElem?_eq_none (by rw [← ods_len O]; omega)
      have f1 : pick (i :: perm) rs = pick perm rs := by unfold pick; rw [List.filterMap_cons, g1]
      have f2 : pick (i :: perm) xs = pick perm xs := by unfold pick; rw [List.filterMap_cons, g2]
      rw [f1, f2]; exact ih
theorem pick_vals {xs : List V} {us : List Value} (r : Vals xs us) : ∀ (perm : List Nat), Vals (pick perm xs) (pick perm us)
  | [] => .nil
  | i :: perm => by
    have ih := pick_vals r perm
    cases q : xs[i]? with
    | none =>
      have f1 : pick (i :: perm) xs = pick perm xs := by unfold pick; rw [List.filterMap_cons, q]
      have f2 : pick (i :: perm) us = pick perm us := by unfold pick; rw [List.filterMap_cons, r.none_of q]
      rw [f1, f2]; exact ih
    | some x =>
      obtain ⟨u, hu, ru⟩ := r.get q
      have f1 : pick (i :: perm) xs = x :: pick perm xs := by unfold pick; rw [List.filterMap_cons, q]
      have f2 : pick (i :: perm) us = u :: pick perm us := by unfold pick; rw [List.filterMap_cons, hu]
      rw [f1, f2]; exact .cons ru ih
/-- how keywords alone are bound -/
def KwBinds (K : PySem.W.Frag) (fd : FuncData) (ps ks : List Str) (perm : List Nat) : Prop := ∀ (s : Shared) (ws : List Value), ws.length = ks.length → BindsTo s fd ⟨[], ks.zip ws⟩ (ps.zip (pick perm ws))
theorem kwBinds_of {K : PySem.W.Frag} {x qual : Str} {params : Arguments} {body : List Stmt} {scope : Scope} {kws : List (Str × V)} {f : Addr} {fd : FuncData} {ps ks : List Str} {perm : List Nat} (F : FunD K x qual params body scope [] kws f fd)
    (h : ∀ (kV doc pm : Value) (an : Option Addr) (cdv ct : Value) (ws : List Value), ws.length = ks.length → bindArgs (PySem.W.fnOf x qual params body scope .none kV doc pm an cdv ct) ⟨[], ks.zip ws⟩ = pure (ps.zip (pick perm ws))) : KwBinds K fd ps ks perm := fun s ws hl => by
  obtain ⟨oc, od, dV, kV, doc, pm, an, cdv, ct, osl, rfl, lk, hcd, hD, hK⟩ := F.ex
  rcases hD with ⟨_, rfl⟩ | ⟨e, _⟩
  · exact .of_eq (h kV doc pm an cdv ct ws hl)
  · exact absurd rfl e
def tCallKS (sp : Sp) (perm : List Nat) (n : Nat) (E : Sg → XK) (tk : TA) : TE := fun σ H Q => tk σ H fun zs H1 => zs.length = n ∧ sp (pick perm zs) H1 Q (E σ)
theorem pe_callKS {CX : CXT} {k : Nat} {f : Addr} {fd : FuncData} {ps ks : List Str} {sp : Sp} {E : Sg → XK} {x : Str} {p : Pos} {kws : List Keyword} {tk : TA} {perm : List Nat} (Fn : FnOk X.prog X.w X.K X.mg X.base CX k f fd ps sp) (hr : Room k X.A) (hg : Gl X x) (hm : X.mg x = some (.ref f)) (hk : PySem.W.keepIn X.K (.ref f) = true)
    (hb : KwBinds X.K fd ps ks perm) (hx : ∀ σ, PassesAt CX X σ (E σ)) (hkw : PK X kws tk) (hall : (backToKw pos (keywordEach kws X.env)).all (·.1.isSome) = true := by rfl) (hks : (backToKw pos (keywordEach kws X.env)).filterMap (·.1) = ks := by rfl)
    (hdb : (x == ("__debug__" : Str)) = false := by decide) (hpl : ((backTo pos (starEach [] X.env)).any (·.1) || (backToKw pos (keywordEach kws X.env)).any (·.1.isNone)) = false := by rfl) :
    PE X (.Call (.Name x p) [] kws pos) (tCallKS sp perm ks.length E tk) := by
  refine ⟨fun pins s σ H Q I h => ?_⟩
  refine wpAny_Call_Name_kw (ld_glob I hg hm ?_ hdb)
  refine PySem.W.callWith_KW0 (h₀ := X.base) I.ok.mod.kin hk hall ?_ hpl
  refine thn (hkw.run pos pins s σ H _ I h) fun ws s2 ⟨zs, H2, I2, rz, hl, q2⟩ => ⟨I2.kIn, ?_⟩
  rw [hks]
  have hl2 : ws.length = ks.length := by rw [← rz.length]; exact hl
  refine wpAny_call (codeAny_mono (Fn.run X.A X.stack s2 H2 ⟨[], ks.zip ws⟩ (pick perm ws) (pick perm zs) Q (E σ) hr I2.env0 (hb s2 ws hl2) (pick_vals rz perm) q2) fun r s' hq => ?_)
  cases r with
  | error e => exact hx σ pins H2 s2 e s' I2 hq
  | ok fl =>
    cases fl with
    | ret u => exact I2.after hq
    | next => exact False.elim hq
    | brk => exact False.elim hq
    | cont => exact False.elim hq
def eCallK (n : Nat) (perm : List Nat) (m : FSem) (mk : SemA) : SemE := fun e => (mk e).bind fun rs e1 => if (pick perm rs).length = n ∧ rs.length = n ∧ perm.Nodup then eCallR m (pick perm rs) e1 else .bad
theorem callK_read {n : Nat} {perm : List Nat} {m : FSem} {ma : SemA} {K : PySem.W.Frag} {σ : Sg} {H : Hp} {Q : VK} (h : tE K W (eCallK n perm m ma) σ H Q) : tA K W ma σ H fun vs H1 => vs.length = n ∧ spF K n m (pick perm vs) H1 Q (WE W σ) := by
  obtain ⟨e, F, R, h⟩ := h
  refine tX_imp (tX_bind (rel := fun σ Hs F H xs rs => OdsR K σ Hs F H rs xs) R .refl h) fun xs0 H1 ⟨rs0, e1, F1, R1, S1, O0, h1⟩ => ?_
  by_cases hl0 : (pick perm rs0).length = n ∧ rs0.length = n ∧ perm.Nodup
  · rw [if_pos hl0] at h1
    obtain ⟨hl, hl1, ndp⟩ := hl0
    have O1 := pick_ods O0 ndp
    refine ⟨by rw [← ods_len O0]; exact hl1, by rw [← ods_len O1]; exact hl, ?_⟩
    generalize pick perm rs0 = rs at *
    generalize pick perm xs0 = xs at *
    unfold eCallR at h1
    cases q : toSls e1 rs with
    | none => rw [q] at h1; exact h1.elim
    | some ss =>
      simp only [q] at h1
      by_cases nd : (sIdx rs).Nodup
      · rw [if_pos nd] at h1
        obtain ⟨RA, _⟩ := args_rel R R1 S1 O1 q nd
        refine ⟨ss, F1, RA, ?_⟩
        cases w : m ss with
        | bad => rw [w] at h1; exact h1
        | exc c t ss' =>
          rw [w] at h1
          exact fun F' H' cls d R' S' x => let ⟨a, b⟩ := back_rel R R1 S1 O1 q nd R' S'; h1 F' H' cls d a b x
        | ok r ss' =>
          rw [w] at h1
          intro x F' H' R' S' o
          obtain ⟨a, b⟩ := back_rel R R1 S1 O1 q nd R' S'
          cases r with
          | s i => exact h1.elim
          | r t => exact h1 x F' H' a b o
          | b z => obtain ⟨p, ep, hn, hf, bx⟩ := o; exact h1 x F' H' a b ⟨p, ep, step_none S1 hn, hf, bx⟩
      · rw [if_neg nd] at h1; exact h1.elim
  · rw [if_neg hl0] at h1; exact h1.elim
theorem qcallk {CX : CXT} {k : Nat} {f : Addr} {fd : FuncData} {ps ks : List Str} {m : FSem} {ma : SemA} {x : Str} {p : Pos} {kws : List Keyword} {perm : List Nat} (Fn : FnOk X.prog X.w X.K X.mg X.base CX k f fd ps (spF X.K ks.length m)) (hr : Room k X.A) (hg : Gl X x) (hm : X.mg x = some (.ref f)) (hk : PySem.W.keepIn X.K (.ref f) = true)
    (hb : KwBinds X.K fd ps ks perm) (hx : ∀ σ, PassesAt CX X σ (WE W σ)) (hkw : QK X W kws ma) (hall : (backToKw pos (keywordEach kws X.env)).all (·.1.isSome) = true := by rfl) (hks : (backToKw pos (keywordEach kws X.env)).filterMap (·.1) = ks := by rfl)
    (hdb : (x == ("__debug__" : Str)) = false := by decide) (hpl : ((backTo pos (starEach [] X.env)).any (·.1) || (backToKw pos (keywordEach kws X.env)).any (·.1.isNone)) = false := by rfl) :
    QE X W (.Call (.Name x p) [] kws pos) (eCallK ks.length perm m ma) :=
  pe_mono (pe_callKS (E := fun σ => WE W σ) Fn hr hg hm hk hb hx hkw hall hks hdb hpl) fun σ H Q h => callK_read h
/-! ### a < b < c -/
end
/-! ### the law's own end -/
theorem law_sp {K : PySem.W.Frag} {m : FSem} {a : Addr} {H : Hp} {ns : List Int} (hS : SqL K H a (ns.map V.int)) (h : ∃ e', m [.v (.list (ns.map PyData.int))] = .ok (.r (.bool true)) e') : spF K 1 m [.ref a] H (fun v _ => v = .bl true) fun _ _ _ => False := by
  obtain ⟨e', h⟩ := h
  have dp : DpAll K H (ns.map V.int) (ns.map PyData.int) := by
    clear hS h
    induction ns with
    | nil => exact .nil
    | cons n ns ih => exact .cons (.int n) ih
  refine ⟨rfl, [.v (.list (ns.map PyData.int))], H, ⟨fun _ _ h => h, rfl, fun i s o h1 h2 => ?_, fun i j l b l' b' p h1 => ?_⟩, ?_⟩
  · cases i with
    | zero => simp at h1 h2; subst h1 h2; exact ⟨_, rfl, .lst hS dp⟩
    | succ i => simp at h1
  · cases i with
    | zero => simp at h1
    | succ i => simp at h1
  · rw [h]
    intro x F' H' R' S' o
    cases o
    rfl
theorem law_CX {P : Program} {w : World} (H : Hp) (s : Shared) (e : Value) (s' : Shared) : L2N.CX P w [] H s (fun _ _ _ => False) e s' → False := fun h => by
  obtain ⟨_, _, _, _, _, _, _, _, _, _, _, _, z⟩ := h
  exact z.elim
theorem takesN0 {X : Cx} : L2N.Takes X (fun _ _ _ _ => False) := fun _ _ x => by
  obtain ⟨_, _, _, _, _, _, _, _, _, _, _, _, _, _, _, _, z⟩ := x
  exact z.elim
end Ev
namespace Ev
open PySem PySem.Spec PyProof.Rows L2
theorem room65 {k : Nat} {A : Around} (r : Room k A) : A.units + 65 < cLine := by have := r.un; omega
section
variable {X : Cx} {W : WX} {B : Bd} {a : Expr} {ma : SemE} {pos : Pos}
/-- name += e, ints -/
def sAug (i : Nat) (g : T → T → Option Od) (m : SemE) : SemS := fun e => match e[i]? with
  | some (.v t) => (m e).bind fun r e1 => (match r.val e1 with
    | some u => (match g t u with
      | some (.r (.int k)) => setO i (.r (.int k)) e1
      | _ => .bad)
    | none => .bad)
  | _ => .bad
end
end Ev

set_option Elab.async false
set_option linter.all false
set_option maxRecDepth 100000
namespace Ev
open PySem PySem.Spec PyProof.Rows L2
/-- each once -/
def dd {α : Type} [DecidableEq α] : List α → List α
  | [] => []
  | x :: xs => if x ∈ xs then dd xs else x :: dd xs
section
variable {X : Cx} {W : WX} {a : Expr} {ma : SemE} {pos : Pos}
/-- the ints of a tuple; of all tuples of a list -/
def intsOf : List T → Option (List Int)
  | [] => some []
  | .int i :: ts => (intsOf ts).map (i :: ·)
  | _ => none
def tupsOf : List T → Option (List (List Int))
  | [] => some []
  | .tuple ts :: us => (match intsOf ts, tupsOf us with
    | some a, some b => some (a :: b)
    | _, _ => none)
  | _ => none
def eLenSet (m : SemE) : SemE := fun e => (m e).bind fun r e1 => match r.val e1 with
  | some (.list ts) => (match tupsOf ts with
    | some ns => if ns.length < 64 then .ok (.r (.int ((dd ns).length : Nat))) e1 else .bad
    | none => .bad)
  | _ => .bad
end
end Ev
namespace Ev
open PySem PySem.Spec PyProof.Rows L2
/-! ### the law's end: any world -/
def CXE : CXT := fun outer H s E e s' => ∃ (P : Program) (w : World), L2N.CX P w outer H s E e s'
theorem fnok_cx {P : Program} {w : World} {K : PySem.W.Frag} {mg : Str → Option Value} {base : Heap} {k : Nat} {f : Addr} {fd : FuncData} {ps : List Str} {sp : Sp} (F : FnOk P w K mg base (L2N.CX P w) k f fd ps sp) : FnOk P w K mg base CXE k f fd ps sp :=
  ⟨F.len, fun A outer s H args us vs Q E hr he hb hv hs => codeAny_mono (F.run A outer s H args us vs Q E hr he hb hv hs) fun r s' h => by
    rcases r with e | (_ | _ | _ | _)
    all_goals first | exact h | exact ⟨P, w, h⟩⟩
theorem law_CXE (H : Hp) (s : Shared) (e : Value) (s' : Shared) : CXE [] H s (fun _ _ _ => False) e s' → False := fun ⟨_, _, z⟩ => law_CX H s e s' z
end Ev

set_option Elab.async false
set_option linter.all false
set_option maxRecDepth 100000
namespace L2
open PySem PySem.Spec PyProof.Rows
end L2
namespace Ev
open PySem PySem.Spec PyProof.Rows L2
def iR2w (m : SemA) : SemI := fun e => (m e).bind fun rs e1 => match vals e1 rs with
  | some [.int i, .int j] => .ok (intsT i (j - i).toNat) e1
  | _ => .bad
end Ev
namespace Ev
open PySem PySem.Spec PyProof.Rows L2
end Ev

set_option Elab.async false
set_option linter.all false
set_option maxRecDepth 100000
namespace Ev
open PySem PySem.Spec PyProof.Rows L2
section
variable {K : PySem.W.Frag} {W : WX} {e e1 : En} {σ : Sg} {F H : Hp}
end
/-! ### dicts of one's own: keys ints and texts -/
def keyEq : T → T → Bool
  | .int i, .int j => decide (i = j)
  | .str x, .str y => decide (x = y)
  | _, _ => false
def keyOf : T → Option Key
  | .int i => some (.inl i)
  | .str x => some (.inr x)
  | _ => none
def dLook (kvs : List (T × T)) (k : T) : Option T := (kvs.find? fun q => keyEq q.1 k).map (·.2)
def dPut (kvs : List (T × T)) (k v : T) : List (T × T) := if (kvs.any fun q => keyEq q.1 k) = true then kvs.map (fun q => if keyEq q.1 k = true then (q.1, v) else q) else kvs ++ [(k, v)]
section
variable {X : Cx} {W : WX} {B : Bd} {a b c : Expr} {ma mb mc : SemE} {pos : Pos}
/-- d[k] -/
def eDGet (i : Nat) (mk : SemE) : SemE := fun e => match e[i]? with
  | some (.ow _ (.d _)) => (mk e).bind fun r e1 => match r.val e1, e1[i]? with
    | some t, some (.ow _ (.d kvs)) => (match keyOf t, dLook kvs t with
      | some _, some u => .ok (.r u) e1
      | _, _ => .bad)
    | _, _ => .bad
  | _ => .bad
/-- d[k] = v -/
def sDPutV (i : Nat) (mk mv : SemE) : SemS := fun e => (mv e).bind fun r e1 => match e1[i]? with
  | some (.ow _ (.d _)) => (mk e1).bind fun rk e2 => (match rk.val e2, esc r e2 with
    | some t, some (u, e3) => (match keyOf t, e3[i]? with
      | some _, some (.ow l (.d kvs)) => if kvs.length < sizeLine then .ok .nx (e3.set i (.ow l (.d (dPut kvs t u)))) else .bad
      | _, _ => .bad)
    | _, _ => .bad)
  | _ => .bad
end
section
variable {K : PySem.W.Frag} {e e1 : En} {σ : Sg} {F H F1 H1 : Hp} {p : Addr} {o : HO}
end
section
variable {X : Cx} {W : WX} {B : Bd} {a b c : Expr} {ma mb mc : SemE} {pos : Pos}
end
end Ev

set_option Elab.async false
set_option linter.all false
set_option maxRecDepth 100000
namespace Ev
open PySem PySem.Spec PyProof.Rows L2
/-! ### dicts of one's own: keys tuples of ints and texts -/
def keyOfs : List T → Option (List Key)
  | [] => some []
  | t :: ts => match keyOf t, keyOfs ts with
    | some k, some ks => some (k :: ks)
    | _, _ => none
def keyM : T → Option (List Key)
  | .tuple ts => keyOfs ts
  | _ => none
def mEq (a b : T) : Bool := decide (keyM a = keyM b)
def mLook (kvs : List (T × T)) (k : T) : Option T := (kvs.find? fun q => mEq q.1 k).map (·.2)
def mPut (kvs : List (T × T)) (k v : T) : List (T × T) := if (kvs.any fun q => mEq q.1 k) = true then kvs.map (fun q => if mEq q.1 k = true then (q.1, v) else q) else kvs ++ [(k, v)]
section
variable {X : Cx} {W : WX} {B : Bd} {a b c : Expr} {ma mb mc : SemE} {pos : Pos}
/-- d[k] -/
def eMGet (i : Nat) (mk : SemE) : SemE := fun e => match e[i]? with
  | some (.ow _ (.m _)) => (mk e).bind fun r e1 => match r.val e1, e1[i]? with
    | some t, some (.ow _ (.m kvs)) => (match keyM t, mLook kvs t with
      | some _, some u => .ok (.r u) e1
      | _, _ => .bad)
    | _, _ => .bad
  | _ => .bad
/-- k in d, k not in d -/
def eMIn (neg : Bool) (i : Nat) (mk : SemE) : SemE := fun e => (mk e).bind fun r e1 => match r.val e1, e1[i]? with
  | some t, some (.ow _ (.m kvs)) => (match keyM t with
    | some _ => .ok (.r (.bool (if neg then !(mLook kvs t).isSome else (mLook kvs t).isSome))) e1
    | _ => .bad)
  | _, _ => .bad
/-- k in a dict that is made there and then -/
def eMInE (neg : Bool) (mk md : SemE) : SemE := fun e => (mk e).bind fun r e1 => match r with
  | .r t => (md e1).bind fun rd e2 => (match rd, keyM t with
    | .b (.m kvs), some _ => .ok (.r (.bool (if neg then !(mLook kvs t).isSome else (mLook kvs t).isSome))) e2
    | _, _ => .bad)
  | _ => .bad
/-- d[k] = v -/
def sMPut (i : Nat) (mk mv : SemE) : SemS := fun e => (mv e).bind fun r e1 => match e1[i]? with
  | some (.ow _ (.m _)) => (mk e1).bind fun rk e2 => (match rk.val e2, esc r e2 with
    | some t, some (u, e3) => (match keyM t, e3[i]? with
      | some _, some (.ow l (.m kvs)) => if kvs.length < sizeLine then .ok .nx (e3.set i (.ow l (.m (mPut kvs t u)))) else .bad
      | _, _ => .bad)
    | _, _ => .bad)
  | _ => .bad
/-- {} -/
def eMNew : SemE := fun e => .ok (.b (.m [])) e
/-- the number of keys -/
def eMLen (i : Nat) : SemE := fun e => match e[i]? with
  | some (.ow _ (.m kvs)) => .ok (.r (.int (kvs.length : Int))) e
  | _ => .bad
end
/-! #### {k: v} with a tuple k -/
section
variable {X : Cx} {W : WX} {B : Bd} {a b c : Expr} {ma mb mc : SemE} {pos : Pos}
def eMDict1 (mk mv : SemE) : SemE := fun e => (mk e).bind fun rk e1 => (mv e1).bind fun rv e2 => match rk.val e2, rv with
  | some t, .r u => (match keyM t with
    | some _ => .ok (.b (.m [(t, u)])) e2
    | none => .bad)
  | _, _ => .bad
end
end Ev

set_option Elab.async false
set_option linter.all false
set_option maxRecDepth 100000
namespace Ev
open PySem PySem.Spec PyProof.Rows L2
/-! ### len of a dict with tuple keys -/
section
variable {X : Cx} {W : WX} {B : Bd} {a b c : Expr} {ma mb mc : SemE} {pos : Pos}
end
/-! ### sorted, of trees -/
end Ev

set_option Elab.async false
set_option linter.all false
set_option maxRecDepth 100000
set_option maxHeartbeats 1000000
/-! ### list(zip(t, u)) of two tuples -/
namespace LZ
open PySem PySem.W PySem.Calls PyProof.Rows PyProof.V PySem.Spec
open PySem.Sem (wp)
section
variable {prog : Program} {w : World} {A : Around} {E : Value → Shared → Prop} {s : Shared}
end
/-- the zip before its turn i; the list S stands apart -/
structure ZSt (h : Heap) (z TI TO i1 i2 l1 l2 S : Addr) (xs ys : Array Value) (i : Nat) : Prop where
  zip : (IsZip h z TI TO .none ∧ ∃ a b, IsPair h TO a b) ∨ ∃ (T : Addr) (f : Bool) (oT : Obj), IsZipHeld h z TI TO T f ∧ h.get? T = some oT ∧ T ≠ z ∧ T ≠ i1 ∧ T ≠ i2 ∧ T ≠ S
  tI : IsPair h TI (.ref i1) (.ref i2)
  it1 : h.IsTupleIter i1 l1 i
  it2 : h.IsTupleIter i2 l2 i
  li1 : h.IsTuple l1 xs
  li2 : h.IsTuple l2 ys
structure SApart (z TI TO i1 i2 l1 l2 S : Addr) : Prop where
  z : S ≠ z
  TI : S ≠ TI
  TO : S ≠ TO
  i1 : S ≠ i1
  i2 : S ≠ i2
  l1 : S ≠ l1
  l2 : S ≠ l2
theorem ZSt.up {h h' : Heap} {z TI TO i1 i2 l1 l2 S : Addr} {xs ys : Array Value} {i : Nat} (st : ZSt h z TI TO i1 i2 l1 l2 S xs ys i) (D : SApart z TI TO i1 i2 l1 l2 S) (up : ∀ b o, b ≠ S → h.get? b = some o → h'.get? b = some o) : ZSt h' z TI TO i1 i2 l1 l2 S xs ys i where
  zip := by
    rcases st.zip with ⟨hz, a, b, hTO⟩ | ⟨T, f, oT, hz, hT, n1, n2, n3, n4⟩
    · exact .inl ⟨up _ _ D.z.symm hz, a, b, up _ _ D.TO.symm hTO⟩
    · exact .inr ⟨T, f, oT, up _ _ D.z.symm hz, up _ _ n4 hT, n1, n2, n3, n4⟩
  tI := up _ _ D.TI.symm st.tI
  it1 := st.it1.at fun o e => up _ o D.i1.symm e
  it2 := st.it2.at fun o e => up _ o D.i2.symm e
  li1 := st.li1.at fun o e => up _ o D.l1.symm e
  li2 := st.li2.at fun o e => up _ o D.l2.symm e
section
variable {prog : Program} {w : World} {A : Around} {E : Value → Shared → Prop} {s : Shared}
end
/-- the pairs made so far -/
structure MadeZ (xs ys : Array Value) (lo : Addr) (h : Heap) (as : List Addr) : Prop where
  rise : as.Pairwise (· < ·)
  above : ∀ a ∈ as, lo < a
  pairs : ∀ (j : Nat) (a : Addr), as[j]? = some a → ∃ x y, xs[j]? = some x ∧ ys[j]? = some y ∧ IsPair h a x y
theorem MadeZ.there {xs ys : Array Value} {lo : Addr} {h : Heap} {as : List Addr} (g : MadeZ xs ys lo h as) {a : Addr} (ha : a ∈ as) : a < h.objs.size := by
  obtain ⟨j, hj⟩ := List.mem_iff_getElem?.mp ha
  obtain ⟨_, _, _, _, e⟩ := g.pairs j a hj
  exact Heap.lt_size e
section
variable {prog : Program} {w : World} {A : Around} {s : Shared} {R : Result → Shared → Prop} {xs ys : Array Value}
end
section
variable {prog : Program} {w : World} {A : Around} {E : Value → Shared → Prop} {s : Shared} {xs ys : Array Value}
end
end LZ

set_option Elab.async false
set_option linter.all false
set_option maxRecDepth 100000
set_option maxHeartbeats 1000000
namespace Ev
open PySem PySem.Spec PyProof.Rows L2
/-! ### list(zip(t, u)) -/
section
variable {K : PySem.W.Frag} {W : WX} {e e1 : En} {σ : Sg} {F H H2 : Hp} {as : List Addr}
end
def eListZip (m : SemA) : SemE := fun e => (m e).bind fun rs e1 => match escs rs e1 with
  | some ([.tuple ts, .tuple us], e2) => if ts.length = us.length then .ok (.b (.l (pairs ts us))) e2 else .bad
  | _ => .bad
end Ev

set_option Elab.async false
set_option linter.all false
set_option maxRecDepth 100000
namespace L2
open PySem PySem.Spec PyProof.Rows
/-! ### a dict comprehension whose keys are tuples -/
end L2

set_option Elab.async false
set_option linter.all false
set_option maxRecDepth 100000
namespace Ev
open PySem PySem.Spec PyProof.Rows L2
/-! ### {k: v for target in iter}, k a tuple: a tree at once -/
section
variable {X : Cx} {W : WX} {B : Bd} {a b c : Expr} {ma mb mc : SemE} {pos : Pos}
end
/-! ### sum -/
def intL : List T → Option (List Int)
  | [] => some []
  | .int i :: ts => (intL ts).map (i :: ·)
  | _ :: _ => none
def fSum : T → Option Od
  | .list ts => (intL ts).map fun ns => .r (.int ns.sum)
  | _ => none
abbrev gSum := g1 fSum
end Ev
namespace Ev
open PySem PySem.Spec PyProof.Rows L2
section
variable {X : Cx} {W : WX} {B : Bd} {a : Expr} {ma : SemE} {pos : Pos}
end
end Ev

set_option Elab.async false
set_option linter.all false
set_option maxRecDepth 100000
namespace Ev
open PySem PySem.Spec PyProof.Rows L2
/-! ### dicts whose keys are ints and tuples of such, nested -/
section
variable {X : Cx} {pins : List (Addr × Obj)} {σ : Sg} {F H : Hp} {s : Shared}
end
end Ev

set_option Elab.async false
set_option linter.all false
set_option maxRecDepth 100000
namespace Ev
open PySem PySem.Spec PyProof.Rows L2
section
variable {X : Cx} {W : WX} {B : Bd} {a b c : Expr} {ma mb mc : SemE} {pos : Pos}
/-- {}, to be a dict with nested keys -/
def eNNew : SemE := fun e => .ok (.b (.n [])) e
/-- the number of keys -/
def eNLen (i : Nat) : SemE := fun e => match e[i]? with
  | some (.ow _ (.n kvs)) => .ok (.r (.int (kvs.length : Int))) e
  | _ => .bad
end
/-! ### max(xs), xs a list of ints -/
def top : List Int → Option Int
  | [] => none
  | i :: is => some (is.foldl (fun m y => if m < y then y else m) i)
def fMax1 : T → Option Od
  | .list ts => (intL ts).bind fun ns => (top ns).map fun m => .r (.int m)
  | _ => none
abbrev gMax1 := g1 fMax1
end Ev

set_option Elab.async false
set_option linter.all false
set_option maxRecDepth 100000
namespace Ev
open PySem PySem.Spec PyProof.Rows L2
/-! ### list(range(n)) -/
section
variable {X : Cx}
end
def eListRng (m : SemE) : SemE := fun e => (m e).bind fun r e1 => match r.val e1 with
  | some (.int i) => if 0 ≤ i ∧ i ≤ 2 ^ 16 then .ok (.b (.l (intsT 0 i.toNat))) e1 else .bad
  | _ => .bad
section
variable {X : Cx} {W : WX} {a : Expr} {ma : SemE} {p p2 q pos : Pos}
end
end Ev

set_option Elab.async false
set_option linter.all false
set_option maxRecDepth 100000
namespace Ev
open PySem PySem.Spec PyProof.Rows L2
section
variable {X : Cx} {W : WX} {B : Bd} {a b c : Expr} {ma mb mc : SemE} {pos : Pos}
/-! ### len of a dict whose keys are ints or texts -/
def eDLen (i : Nat) : SemE := fun e => match e[i]? with
  | some (.ow _ (.d kvs)) => .ok (.r (.int (kvs.length : Int))) e
  | _ => .bad
/-! ### x[k], x a dict of its own or a list -/
end
end Ev

set_option Elab.async false
set_option linter.all false
set_option maxRecDepth 100000
namespace Ev
open PySem PySem.Spec PyProof.Rows L2
section
variable {X : Cx} {W : WX} {a b : Expr} {ma mb : SemE} {pos : Pos}
/-! ### [x] * n -/
def eRep (ma mb : SemE) : SemE := fun e => (ma e).bind fun ra e1 => (mb e1).bind fun rb e2 => match ra with
  | .b (.l us) => (match rb.val e2 with
    | some (.int k) => if 0 ≤ k ∧ k ≤ 2 ^ 16 ∧ us.length ≤ 16 then .ok (.b (.l (List.replicate k.toNat us).flatten)) e2 else .bad
    | _ => .bad)
  | _ => .bad
end
end Ev
namespace Ev
open PySem PySem.Spec PyProof.Rows L2
section
variable {X : Cx} {W : WX} {a : Expr} {ma : SemE} {pos : Pos}
/-! ### len of a new dict with tuple keys -/
def eMLenE (m : SemE) : SemE := fun e => (m e).bind fun r e1 => match r with
  | .b (.m kvs) => .ok (.r (.int (kvs.length : Int))) e1
  | _ => .bad
end
end Ev

set_option Elab.async false
set_option linter.all false
set_option maxRecDepth 100000
namespace Ev
open PySem PySem.Spec PyProof.Rows L2
/-! ### dict(xs), xs a list of pairs -/
def pairsOf : List T → Option (List (T × T))
  | [] => some []
  | .tuple [k, v] :: ts => (match keyOf k, pairsOf ts with
    | some _, some r => some ((k, v) :: r)
    | _, _ => none)
  | _ => none
def mergeT (acc kvs : List (T × T)) : List (T × T) := kvs.foldl (fun acc q => dPut acc q.1 q.2) acc
def eDictP (m : SemA) : SemE := fun e => (m e).bind fun rs e1 => match escs rs e1 with
  | some ([.list ts], e2) => (match pairsOf ts with
    | some kvs => .ok (.b (.d (mergeT [] kvs))) e2
    | none => .bad)
  | _ => .bad
section
variable {X : Cx} {W : WX} {B : Bd} {a b c : Expr} {ma mb mc : SemE} {pos : Pos}
/-! ### xs[i], xs[j] = v, w -/
def putS : List (Nat × SemE) → List T → SemS
  | [], [], e => .ok .nx e
  | (i, mk) :: tgs, t :: ts, e => (match e[i]? with
    | some (.ow _ (.l _)) => (mk e).bind fun ri e2 => (match ri.val e2, e2[i]? with
      | some (.int k), some (.ow l (.l us)) => (match ixN us.length k with
        | some j => putS tgs ts (e2.set i (.ow l (.l (us.set j t))))
        | none => .bad)
      | _, _ => .bad)
    | some (.ow _ (.d _)) => (mk e).bind fun ri e2 => (match ri.val e2, e2[i]? with
      | some u, some (.ow l (.d kvs)) => (match keyOf u with
        | some _ => if kvs.length < sizeLine then putS tgs ts (e2.set i (.ow l (.d (dPut kvs u t)))) else .bad
        | none => .bad)
      | _, _ => .bad)
    | _ => .bad)
  | _, _, _ => .bad
def sPutS (tgs : List (Nat × SemE)) (m : SemA) : SemS := fun e => (m e).bind fun rs e1 => match escs rs e1 with
  | some (ts, e2) => if ts.length = tgs.length ∧ ts.length ≤ sizeLine then putS tgs ts e2 else .bad
  | none => .bad
end
end Ev

set_option Elab.async false
set_option linter.all false
set_option maxRecDepth 100000
namespace Ev
open PySem PySem.Spec PyProof.Rows L2
/-! ### wide powers -/
def CPowW (i j : Int) : Prop := 0 ≤ j ∧ j ≤ 100 ∧ i.natAbs.log2 < 1000000
section
variable {X : Cx}
theorem op_powW : OpR X (binaryOp .Pow) (rI CPowW fun i j => .int (i ^ j.toNat)) := opI fun i j _ _ _ _ _ hc q => by
  obtain ⟨h0, h1, h2⟩ := hc
  have hb : Builtin.Int.intBits i ≤ 1000000 := by
    unfold Builtin.Int.intBits
    split <;> omega
  refine pow_int h0 ?_ q
  have h3 : (Builtin.Int.intBits i : Int) * j ≤ 1000000 * j := Int.mul_le_mul_of_nonneg_right (by omega) h0
  omega
end
abbrev gPowW : T → T → Option Od := gII (fun i j => decide (0 ≤ j ∧ j ≤ 100 ∧ i.natAbs.log2 < 1000000)) fun i j => .int (i ^ j.toNat)
theorem does_powW {K : PySem.W.Frag} : Does2 K (rI CPowW fun i j => .int (i ^ j.toNat)) gPowW := does_ii (fun i j h => of_decide_eq_true (p := 0 ≤ j ∧ j ≤ 100 ∧ i.natAbs.log2 < 1000000) h) fun _ _ _ => .int _
theorem gPowW_ok {i j : Int} (h : 0 ≤ j ∧ j ≤ 100 ∧ i.natAbs.log2 < 1000000) : gPowW (.int i) (.int j) = some (.r (.int (i ^ j.toNat))) := by
  simp only [gPowW, gII, h, and_self, decide_true, if_true]
/-! ### zip of two lists or of two tuples -/
def iZip2 (m : SemA) : SemI := fun e => (m e).bind fun rs e1 => match escs rs e1 with
  | some ([.list ts, .list us], e2) => .ok (pairs ts us) e2
  | some ([.tuple ts, .tuple us], e2) => .ok (pairs ts us) e2
  | _ => .bad
end Ev

set_option Elab.async false
set_option linter.all false
set_option maxRecDepth 100000
namespace Ev
open PySem PySem.Spec PyProof.Rows L2
/-! ### a walk over what names hold, which they go on to hold -/
abbrev SemIG := En → Out (List T × (En → Prop))
open Classical in
noncomputable def compSG (gd : En → Prop) (g : SemG) (c : SemT) (m : SemE) (vs : List Nat) : List T → List T → SemE
  | [], acc, e => if gd e then .ok (.b (.l acc)) e else .bad
  | t :: ts, acc, e => if gd e then (match g t (wipeE e vs) with
    | some e1 => (c e1).nx.bind fun k e2 => if k then (m e2).nx.bind fun r e3 => (match esc r e3 with
        | some (u, e4) => if acc.length < sizeLine then compSG gd g c m vs ts (acc ++ [u]) (restE e e4 vs) else .bad
        | none => .bad)
      else compSG gd g c m vs ts acc (restE e e2 vs)
    | none => .bad) else .bad
noncomputable def eCompG (mi : SemIG) (g : SemG) (c : SemT) (m : SemE) (vs : List Nat) : SemE := fun e => (mi e).bind fun p e1 => compSG p.2 g c m vs p.1 [] e1
section
variable {X : Cx} {W : WX} {a b c : Expr} {ma mb mc : SemE} {pos : Pos}
/-- zip of two names -/
def seqOf : Sl → Option (List T ⊕ List T)
  | .v (.list ts) => some (.inl ts)
  | .v (.tuple ts) => some (.inr ts)
  | .ow _ (.l ts) => some (.inl ts)
  | .fz (.l ts) => some (.inl ts)
  | _ => none
def iZipV (i j : Nat) : SemIG := fun e => match e[i]?, e[j]? with
  | some si, some sj => (match seqOf si, seqOf sj with
    | some (.inl ts), some (.inl us) => .ok (pairs ts us, fun e' => e'[i]? = some si ∧ e'[j]? = some sj) e
    | some (.inr ts), some (.inr us) => .ok (pairs ts us, fun e' => e'[i]? = some si ∧ e'[j]? = some sj) e
    | _, _ => .bad)
  | _, _ => .bad
end
end Ev

set_option Elab.async false
set_option linter.all false
set_option maxRecDepth 100000
namespace Ev
open PySem PySem.Spec PyProof.Rows L2
/-! ### what is never reached -/
section
variable {X : Cx} {W : WX} {B : Bd} {a b c : Expr} {ma mb mc : SemE} {pos : Pos}
/-! ### great products -/
def CMulX (i j : Int) : Prop := i.natAbs.log2 + j.natAbs.log2 < 100000000
theorem CMulX.ok {i j : Int} (h : CMulX i j) : IntMulOk i j := by
  have b : ∀ x : Int, Builtin.Int.intBits x ≤ x.natAbs.log2 + 1 := fun x => by
    unfold Builtin.Int.intBits
    split <;> omega
  have h1 := b i
  have h2 := b j
  have h3 : i.natAbs.log2 + j.natAbs.log2 < 100000000 := h
  have e : bitsLine = 134217728 := by decide
  unfold IntMulOk
  intro z
  rw [Bool.and_eq_true] at z
  have z2 := z.2
  unfold Builtin.Int.intTooBig at z2
  have z3 := of_decide_eq_true z2
  rw [e] at z3
  omega
theorem op_mulX : OpR X (binaryOp .Mult) (rI CMulX fun i j => .int (i * j)) := opI fun _ _ _ _ _ _ _ hc q => mul_int q hc.ok
end
abbrev gMulX : T → T → Option Od := gII (fun i j => decide (i.natAbs.log2 + j.natAbs.log2 < 100000000)) fun i j => .int (i * j)
theorem does_mulX {K : PySem.W.Frag} : Does2 K (rI CMulX fun i j => .int (i * j)) gMulX := does_ii (fun i j h => of_decide_eq_true (p := i.natAbs.log2 + j.natAbs.log2 < 100000000) h) fun _ _ _ => .int _
theorem gMulX_ok {i j : Int} (h : i.natAbs.log2 + j.natAbs.log2 < 100000000) : gMulX (.int i) (.int j) = some (.r (.int (i * j))) := by
  simp only [gMulX, gII, h, decide_true, if_true]
/-! ### ints as texts -/
def fStr : T → Option Od
  | .int i => if i.natAbs.log2 < 1920 then some (.r (.str (toString i))) else none
  | _ => none
abbrev gStr := g1 fStr
theorem does_str {K : PySem.W.Frag} : DoesN K (fun xs H Q => ∃ i, xs = [.int i] ∧ i.natAbs.log2 < 1920 ∧ Q (.str (toString i)) H) gStr := doesN1 fun x t w F H Q ff d hg => by
  cases t with
  | int i =>
    have d' : Dp K F x (.int i) := d
    cases d'
    by_cases hl : i.natAbs.log2 < 1920
    · have e : fStr (.int i) = some (.r (.str (toString i))) := if_pos hl
      rw [e] at hg
      cases hg
      exact ⟨trivial, fun q => ⟨i, rfl, hl, q.1 _ (.str _)⟩⟩
    · have e : fStr (.int i) = none := if_neg hl
      rw [e] at hg
      cases hg
  | _ => cases hg
/-! ### texts joined -/
def strsOf : List T → Option (List Str)
  | [] => some []
  | .str x :: ts => (strsOf ts).map (x :: ·)
  | _ :: _ => none
theorem strs_read {K : PySem.W.Frag} {F : Hp} : ∀ {ts : List T} {xs : List V} {ys : List Str}, DpAll K F xs ts → strsOf ts = some ys → xs = ys.map V.str
  | [], _, _, h, e => by cases h; cases e; rfl
  | t :: ts, _, ys, h, e => by
    cases h with
    | cons a b =>
      cases t with
      | str x =>
        simp only [strsOf] at e
        cases q : strsOf ts with
        | none => rw [q] at e; cases e
        | some zs =>
          rw [q] at e
          cases e
          cases a
          rw [strs_read b q]; rfl
      | _ => cases e
def eJoin (mo m : SemE) : SemE := fun e => (mo e).bind fun ro e0 => match ro with
  | .r (.str sep) => (m e0).bind fun r e1 => (match r.val e1 with
    | some (.list ts) => (match strsOf ts with
      | some ys => if (ys.map (·.length)).sum + ys.length * sep.length ≤ 16777216 then .ok (.r (.str (Txt.join sep ys))) e1 else .bad
      | none => .bad)
    | some (.tuple ts) => (match strsOf ts with
      | some ys => if (ys.map (·.length)).sum + ys.length * sep.length ≤ 16777216 then .ok (.r (.str (Txt.join sep ys))) e1 else .bad
      | none => .bad)
    | _ => .bad)
  | _ => .bad
section
variable {X : Cx} {W : WX} {B : Bd} {a b c : Expr} {ma mb mc : SemE} {pos : Pos}
theorem qjoin {apos : Pos} {o e : Expr} {mo m : SemE} (ho : QE X W o mo) (he : QE X W e m) (hs : starEach [e] X.env = [(false, eval e X.env)] := by rfl) (hbase : attributeBase o "join" X.env (eval o X.env) = eval o X.env := by rfl) (hline : (apos.endLine == pos.line) = true := by rfl) :
    QE X W (.Call (.Attribute o "join" apos) [e] [] pos) (eJoin mo m) := by
  refine pe_mono (pe_join ho he hs hbase hline) fun σ H Q h => ?_
  obtain ⟨e0, F0, R0, h⟩ := h
  refine tX_imp (tX_bind (rel := fun σ => OdR X.K σ) R0 .refl h) fun x H1 ⟨r, e1, F1, R1, S1, O1, h1⟩ => ?_
  split at h1
  · rename_i sep
    cases (show Dp X.K F1 x (.str sep) from O1)
    refine ⟨⟨_, rfl⟩, tX_imp (tX_bind (rel := fun σ => OdR X.K σ) R1 S1 h1) fun y H2 ⟨r2, e2, F2, R2, S2, O2, h2⟩ => ?_⟩
    have S12 := S1.trans S2
    split at h2
    · rename_i ts q
      obtain ⟨p, xs, rfl, hl, hd⟩ := val_ok R2 O2 q
      split at h2
      · rename_i ys q2
        split at h2
        · rename_i hz
          have ex := strs_read hd q2
          subst ex
          exact ⟨sep, p, ys, rfl, rfl, .inl hl, hz, h2 _ F2 H2 R2 S12 (.str _)⟩
        · exact h2.elim
      · exact h2.elim
    · rename_i ts q
      have dd : Dp X.K F2 y (.tuple ts) := val_ok R2 O2 q
      cases dd with
      | tup hl hd =>
        split at h2
        · rename_i ys q2
          split at h2
          · rename_i hz
            have ex := strs_read hd q2
            subst ex
            exact ⟨sep, _, ys, rfl, rfl, .inr (SqT.of (R2.sub _ _ hl)), hz, h2 _ F2 H2 R2 S12 (.str _)⟩
          · exact h2.elim
        · exact h2.elim
    · exact h2.elim
  · exact h1.elim
/-! ### f-strings -/
def eFmt (m : SemE) : SemE := fun e => (m e).bind fun r e1 => match r.val e1 with
  | some (.str y) => if y.length ≤ sizeLine then .ok (.r (.str y)) e1 else .bad
  | some (.int i) => if i.natAbs.log2 < 1920 then .ok (.r (.str (toString i))) e1 else .bad
  | _ => .bad
def eJs : List SemE → Str → SemE
  | [], acc, e => .ok (.r (.str acc)) e
  | m :: ms, acc, e => (m e).bind fun r e1 => match r with
    | .r (.str y) => if (acc ++ y).length ≤ sizeLine then eJs ms (acc ++ y) e1 else .bad
    | _ => .bad
end
end Ev
namespace L2
open PySem PySem.Spec PyProof.Rows
/-- as walk_ofE, the bits told -/
theorem walk_ofEB {l : PySem.W.OpenLaw} {n k : Nat} {q : Program} {loose : List Str} {XP : (Str → Option Value) → Heap → Prop} {YP : World → Heap → Prop} {d : DefRec} {CX : CXT} {x : Str}
    (hn : l.most = some n) (hn2 : n ≤ sizeLine) (hdf : d.params.defaults = []) (hr : Room k callerA)
    (F : ∀ (w : World) (mg : Str → Option Value) (fa : Addr) (h : Heap), YP w h → h.Ns mainGlobals mg → mg d.name = some (.ref fa) →
      ∃ (K : PySem.W.Frag) (fd : FuncData) (sp : Sp), K.In h ∧ (∀ (s : Shared) (u : Value), BindsTo s fd ⟨[u], []⟩ [(x, u)]) ∧
        (∀ (H : Hp) (a : Addr) (ns : List Int), ns.length ≤ n → (∀ k ∈ ns, Builtin.Int.intBits k ≤ 1048576) → Only H → SqL K H a (ns.map V.int) → sp [.ref a] H (fun v _ => v = .bl true) fun _ _ _ => False) ∧
        ∀ base : Heap, K.In base → base.Ns mainGlobals mg → FnOk l.prog w K mg base CX k fa fd [x] sp)
    (hCX : ∀ (H : Hp) (s : Shared) (e : Value) (s' : Shared), CX [] H s (fun _ _ _ => False) e s' → False) :
    PySem.W.WalkO q loose XP YP l.row.toRowW d [] (fun f vs => PySem.call f vs) := by
  refine Att.attach_callB hn hdf fun w s₀ s₁ mg mb fa o pm cd doc a vs ns G Y ho hd hcd hmg hobj hints hlen hbits hg => ?_
  obtain ⟨K, fd, sp, KX, hb, hsp, hF⟩ := F w mg fa _ Y G.T.g hmg
  exact law_call KX G.T.g G.T.b G.T.builtins G.T.nolimit hg hobj hints (Nat.le_trans hlen hn2) hr hF hb (fun H hO hS => hsp H a ns hlen hbits hO hS) fun H e s' => hCX H s₁ e s'
end L2

set_option Elab.async false
set_option linter.all false
set_option maxRecDepth 100000
namespace Ev
open PySem PySem.Spec PyProof.Rows L2
/-! ### a walk over what one name holds, which it goes on to hold -/
def iNmG (i : Nat) : SemIG := fun e => match e[i]? with
  | some si => (match seqOf si with
    | some (.inl ts) => .ok (ts, fun e' => e'[i]? = some si) e
    | some (.inr ts) => .ok (ts, fun e' => e'[i]? = some si) e
    | none => .bad)
  | none => .bad
section
variable {X : Cx} {W : WX}
end
/-! ### the length of a text -/
def fLenS : T → Option Od
  | .str z => if z.length ≤ sizeLine then some (.r (.int z.length)) else none
  | _ => none
abbrev gLenS := g1 fLenS
theorem does_lenS {K : PySem.W.Frag} : DoesN K (fun xs H Q => ∃ z, xs = [.str z] ∧ z.length ≤ sizeLine ∧ Q (.int z.length) H) gLenS := doesN1 fun x t w F H Q ff d hg => by
  cases t with
  | str z =>
    by_cases hl : z.length ≤ sizeLine
    · have e : fLenS (.str z) = some (.r (.int z.length)) := if_pos hl
      rw [e] at hg
      cases hg
      cases d
      exact ⟨trivial, fun q => ⟨z, rfl, hl, q.1 _ (.int _)⟩⟩
    · have e : fLenS (.str z) = none := if_neg hl
      rw [e] at hg
      cases hg
  | _ => cases hg
theorem gLenS_ok {z : Str} (h : z.length ≤ sizeLine) : gLenS [.str z] = some (.r (.int z.length)) := if_pos h
end Ev

set_option Elab.async false
set_option linter.all false
set_option maxRecDepth 100000
namespace Ev
open PySem PySem.Spec PyProof.Rows L2
/-! ### a list of lists that are grown one by one -/
section
variable {K : PySem.W.Frag} {W : WX} {B : Bd} {e e' : En} {σ σ' : Sg} {F H F' H' : Hp} {i : Nat} {p : Addr}
end
structure Gd (H0 F H : Hp) (D : Addr) (gs : List (List Int)) (qs : List Addr) : Prop where
  len : qs.length = gs.length
  d0 : H0 D = none
  q0 : ∀ q ∈ qs, H0 q = none
  nd : qs.Nodup
  dq : D ∉ qs
  fd : F D = none
  fq : ∀ q ∈ qs, F q = none
  hd : H D = some (.lst (qs.map .ref))
  hq : ∀ (j : Nat) (q : Addr) (ns : List Int), qs[j]? = some q → gs[j]? = some ns → H q = some (.lst (ns.map .int))
  up : ∀ a o, H0 a = some o → H a = some o
theorem Gd.sm {H0 F H : Hp} {D : Addr} {gs : List (List Int)} {qs : List Addr} (g : Gd H0 F H D gs qs) {q : Addr} (h : q ∈ qs) : ∃ o, H q = some o := by
  obtain ⟨j, hj⟩ := List.getElem?_of_mem h
  have hl : j < gs.length := by rw [← g.len]; exact (List.getElem?_eq_some_iff.mp hj).1
  exact ⟨_, g.hq j q _ hj (List.getElem?_eq_getElem hl)⟩
/-- nothing that stands is changed -/
theorem Gd.on {H0 F H F' H' : Hp} {D : Addr} {gs : List (List Int)} {qs : List Addr} (g : Gd H0 F H D gs qs) (k : ∀ a o, H a = some o → H' a = some o ∧ (F a = none → F' a = none)) : Gd H0 F' H' D gs qs where
  len := g.len
  d0 := g.d0
  q0 := g.q0
  nd := g.nd
  dq := g.dq
  fd := (k _ _ g.hd).2 g.fd
  fq := fun q hq => by obtain ⟨o, ho⟩ := g.sm hq; exact (k _ _ ho).2 (g.fq q hq)
  hd := (k _ _ g.hd).1
  hq := fun j q ns h1 h2 => (k _ _ (g.hq j q ns h1 h2)).1
  up := fun a o h => (k _ _ (g.up a o h)).1
/-- one more -/
theorem Gd.more {H0 F H : Hp} {D p : Addr} {gs : List (List Int)} {qs : List Addr} (g : Gd H0 F H D gs qs) (fh : ∀ a o, F a = some o → H0 a = some o) (hp : H p = none) : Gd H0 F (upd (upd H p (.lst [])) D (.lst (qs.map .ref ++ [.ref p]))) D (gs ++ [[]]) (qs ++ [p]) := by
  have p0 : H0 p = none := by
    cases q : H0 p with
    | none => rfl
    | some o => have := g.up _ _ q; rw [hp] at this; cases this
  have pD : p ≠ D := fun q => by subst q; rw [g.hd] at hp; cases hp
  have pq : ∀ q ∈ qs, q ≠ p := fun q hq e => by subst e; obtain ⟨o, ho⟩ := g.sm hq; rw [hp] at ho; cases ho
  have Dq : ∀ q ∈ qs, q ≠ D := fun q hq e => g.dq (e ▸ hq)
  refine ⟨by simp [g.len], g.d0, fun q hq => ?_, ?_, fun h => ?_, g.fd, fun q hq => ?_, ?_, fun j q ns h1 h2 => ?_, fun a o h => ?_⟩
  · rcases List.mem_append.mp hq with h | h
    · exact g.q0 q h
    · rw [List.mem_singleton.mp h]; exact p0
  · exact List.nodup_append.mpr ⟨g.nd, by simp, fun a ha b hb => by rw [List.mem_singleton.mp hb]; exact pq a ha⟩
  · rcases List.mem_append.mp h with h | h
    · exact g.dq h
    · exact pD (List.mem_singleton.mp h).symm
  · rcases List.mem_append.mp hq with h | h
    · exact g.fq q h
    · rw [List.mem_singleton.mp h]
      cases z : F p with
      | none => rfl
      | some o => rw [fh _ _ z] at p0; cases p0
  · rw [upd_same, List.map_append]; rfl
  · by_cases hj : j < qs.length
    · rw [List.getElem?_append_left hj] at h1
      rw [List.getElem?_append_left (by rw [← g.len]; exact hj)] at h2
      have m := List.mem_of_getElem? h1
      rw [upd_ne (Dq q m), upd_ne (pq q m)]
      exact g.hq j q ns h1 h2
    · have hl : j < (qs ++ [p]).length := (List.getElem?_eq_some_iff.mp h1).1
      have ej : j = qs.length := by simp at hl; omega
      subst ej
      simp at h1
      rw [g.len] at h2
      simp at h2
      subst h1 h2
      rw [upd_ne pD, upd_same]; rfl
  · have h' := g.up a o h
    have aD : a ≠ D := fun q => by subst q; rw [g.d0] at h; cases h
    have ap : a ≠ p := fun q => by subst q; rw [p0] at h; cases h
    rw [upd_ne aD, upd_ne ap]; exact h'
end Ev

set_option Elab.async false
set_option linter.all false
set_option maxRecDepth 100000
namespace Ev
open PySem PySem.Spec PyProof.Rows L2
/-! ### methods of texts -/
def eSM1 (f : Str → Str → Option Od) (mo m : SemE) : SemE := fun e => (mo e).bind fun ro e0 => match ro with
  | .r (.str a) => (m e0).bind fun r e1 => (match r with
    | .r (.str b) => (match f a b with
      | some w => .ok w e1
      | none => .bad)
    | _ => .bad)
  | _ => .bad
def eSM0 (f : Str → Option Od) (mo : SemE) : SemE := fun e => (mo e).bind fun ro e0 => match ro with
  | .r (.str a) => (match f a with
    | some w => .ok w e0
    | none => .bad)
  | _ => .bad
def SM1 (K : PySem.W.Frag) (r : V → List V → Hp → VK → Prop) (f : Str → Str → Option Od) : Prop := ∀ a b w F H (Q : VK), f a b = some w → Back w ∧ (Fin K F H Q w → r (.str a) [.str b] H Q)
def SM0 (K : PySem.W.Frag) (r : V → List V → Hp → VK → Prop) (f : Str → Option Od) : Prop := ∀ a w F H (Q : VK), f a = some w → Back w ∧ (Fin K F H Q w → r (.str a) [] H Q)
section
variable {X : Cx} {W : WX} {B : Bd} {a b c : Expr} {ma mb mc : SemE} {pos : Pos}
theorem qsm1 {id : String} {name : Str} {apos : Pos} {o e : Expr} {mo m : SemE} {r : V → List V → Hp → VK → Prop} {f : Str → Str → Option Od} (slot : Slot "str" name id) (ty : typeOf (.builtin id) = pure (.type "method_descriptor")) (rule : MtR X id r) (hr : SM1 X.K r f) (ho : QE X W o mo) (he : QE X W e m)
    (hs : starEach [e] X.env = [(false, eval e X.env)] := by rfl) (hbase : attributeBase o name X.env (eval o X.env) = eval o X.env := by rfl) (hline : (apos.endLine == pos.line) = true := by rfl) :
    QE X W (.Call (.Attribute o name apos) [e] [] pos) (eSM1 f mo m) := by
  refine pe_mono (pe_m1 slot ty rule ho he hs hbase hline) fun σ H Q h => ?_
  obtain ⟨e0, F0, R0, h⟩ := h
  refine tX_imp (tX_bind (rel := fun σ => OdR X.K σ) R0 .refl h) fun x H1 ⟨r1, e1, F1, R1, S1, O1, h1⟩ => ?_
  split at h1
  · rename_i a
    cases (show Dp X.K F1 x (.str a) from O1)
    refine ⟨⟨_, rfl⟩, tX_imp (tX_bind (rel := fun σ => OdR X.K σ) R1 S1 h1) fun y H2 ⟨r2, e2, F2, R2, S2, O2, h2⟩ => ?_⟩
    split at h2
    · rename_i b
      cases (show Dp X.K F2 y (.str b) from O2)
      split at h2
      · rename_i w q
        obtain ⟨bk, go⟩ := hr a b w F2 H2 Q q
        exact go (fin_of R2 (S1.trans S2) h2 bk)
      · exact h2.elim
    · exact h2.elim
  · exact h1.elim
theorem qsm0 {id : String} {name : Str} {apos : Pos} {o : Expr} {mo : SemE} {r : V → List V → Hp → VK → Prop} {f : Str → Option Od} (slot : Slot "str" name id) (ty : typeOf (.builtin id) = pure (.type "method_descriptor")) (rule : MtR X id r) (hr : SM0 X.K r f) (ho : QE X W o mo)
    (hbase : attributeBase o name X.env (eval o X.env) = eval o X.env := by rfl) (hline : (apos.endLine == pos.line) = true := by rfl) :
    QE X W (.Call (.Attribute o name apos) [] [] pos) (eSM0 f mo) := by
  refine pe_mono (pe_m0 slot ty rule ho hbase hline) fun σ H Q h => ?_
  obtain ⟨e0, F0, R0, h⟩ := h
  refine tX_imp (tX_bind (rel := fun σ => OdR X.K σ) R0 .refl h) fun x H1 ⟨r1, e1, F1, R1, S1, O1, h1⟩ => ?_
  split at h1
  · rename_i a
    cases (show Dp X.K F1 x (.str a) from O1)
    refine ⟨⟨_, rfl⟩, ?_⟩
    split at h1
    · rename_i w q
      obtain ⟨bk, go⟩ := hr a w F1 H1 Q q
      exact go (fin_of R1 S1 h1 bk)
    · exact h1.elim
  · exact h1.elim
end
def fSplit (a b : Str) : Option Od := if (b.length == 0) = false ∧ a.length + 2 ≤ sizeLine then some (.b (.l ((Txt.split a b).map .str))) else none
def fStarts (a b : Str) : Option Od := some (.r (.bool (Txt.startswith a b)))
def fAscii (a : Str) : Option Od := some (.r (.bool (Txt.isascii a)))
def fDigit (a : Str) : Option Od := some (.r (.bool (Txt.isdigit a)))
theorem dp_strs {K : PySem.W.Frag} {F : Hp} : ∀ ys : List Str, DpAll K F (ys.map V.str) (ys.map PyData.str)
  | [] => .nil
  | y :: ys => .cons (.str y) (dp_strs ys)
theorem sm_split {K : PySem.W.Frag} : SM1 K (fun x xs H Q => ∃ a b, x = .str a ∧ xs = [.str b] ∧ (b.length == 0) = false ∧ a.length + 2 ≤ sizeLine ∧ rNewStrs (Txt.split a b) H Q) fSplit := fun a b w F H Q h => by
  unfold fSplit at h
  split at h
  · rename_i c
    cases h
    exact ⟨trivial, fun k => ⟨a, b, rfl, rfl, c.1, c.2, fun p hp => k p _ hp (dp_strs _)⟩⟩
  · cases h
theorem sm_starts {K : PySem.W.Frag} : SM1 K (fun x xs H Q => ∃ a b, x = .str a ∧ xs = [.str b] ∧ Q (.bl (Txt.startswith a b)) H) fStarts := fun a b w F H Q h => by
  cases h
  exact ⟨trivial, fun k => ⟨a, b, rfl, rfl, k.1 _ (.bl _)⟩⟩
theorem sm_ascii {K : PySem.W.Frag} : SM0 K (fun x xs H Q => ∃ a, x = .str a ∧ xs = [] ∧ True ∧ Q (.bl (Txt.isascii a)) H) fAscii := fun a w F H Q h => by
  cases h
  exact ⟨trivial, fun k => ⟨a, rfl, rfl, trivial, k.1 _ (.bl _)⟩⟩
theorem sm_digit {K : PySem.W.Frag} : SM0 K (fun x xs H Q => ∃ a, x = .str a ∧ xs = [] ∧ True ∧ Q (.bl (Txt.isdigit a)) H) fDigit := fun a w F H Q h => by
  cases h
  exact ⟨trivial, fun k => ⟨a, rfl, rfl, trivial, k.1 _ (.bl _)⟩⟩
/-! ### int(text) -/
def fIntT : T → Option Od
  | .str a => (match intText? a with
    | some n => if a.length ≤ 640 then some (.r (.int n)) else none
    | none => none)
  | _ => none
abbrev gIntT := g1 fIntT
theorem does_intT {K : PySem.W.Frag} : DoesN K (fun xs H Q => ∃ a n, xs = [.str a] ∧ PySem.intText? a = some n ∧ a.length ≤ 640 ∧ Q (.int n) H) gIntT := doesN1 fun x t w F H Q ff d hg => by
  cases t with
  | str a =>
    have d' : Dp K F x (.str a) := d
    cases d'
    simp only [fIntT] at hg
    split at hg
    · rename_i n q
      split at hg
      · rename_i hl
        cases hg
        exact ⟨trivial, fun k => ⟨a, n, rfl, q, hl, k.1 _ (.int _)⟩⟩
      · cases hg
    · cases hg
  | _ => cases hg
/-! ### one sign in a text -/
def gInS : T → T → Option Od
  | .str c, .str z => (match c.cps.toList with
    | [k] => some (.r (.bool (decide (k ∈ z.cps.toList))))
    | _ => none)
  | _, _ => none
theorem does_inS {K : PySem.W.Frag} : Does2 K rInS gInS := by
  intro x y t u w F H Q ff dx dy h
  cases t with
  | str c =>
    cases u with
    | str z =>
      simp only [gInS] at h
      split at h
      · rename_i k q
        cases h
        have dx : Dp K F x (.str c) := dx
        have dy : Dp K F y (.str z) := dy
        cases dx
        cases dy
        have ec : c = ⟨#[k]⟩ := Str.ext' (Array.toList_inj.mp q)
        exact ⟨trivial, fun g => ⟨k, z, by rw [ec], rfl, g.1 _ (.bl _)⟩⟩
      · cases h
    | _ => cases h
  | _ => cases h
/-! ### a part of a text -/
def eSlS (m : SemE) (lo hi : SemP) : SemE := fun e => (m e).bind fun r e1 => match r with
  | .r (.str z) => (lo e1).bind fun l e2 => (hi e2).bind fun h e3 => if z.length ≤ sizeLine then .ok (.r (.str (cutS z l h))) e3 else .bad
  | _ => .bad
section
variable {X : Cx} {W : WX} {B : Bd} {a b c : Expr} {ma mb mc : SemE} {pos : Pos}
theorem qslS {lo hi : Option Expr} {ml mh : SemP} {p2 : Pos} (ha : QE X W a ma) (hl : QP X W lo ml) (hu : QP X W hi mh) : QE X W (.Subscript a (.Slice lo hi none p2) pos) (eSlS ma ml mh) := by
  refine pe_mono (pe_slice sl_str ha hl hu) fun σ H Q h => ?_
  obtain ⟨e, F, R, h⟩ := h
  refine tX_imp (tX_bind (rel := fun σ => OdR X.K σ) R .refl h) fun x H1 ⟨r, e1, F1, R1, S1, O1, h1⟩ => ?_
  split at h1
  · rename_i z
    cases (show Dp X.K F1 x (.str z) from O1)
    refine tX_imp (tX_bind (rel := fun _ _ _ _ (x : Option Int) r => x = r) R1 S1 h1) fun l H2 ⟨l', e2, F2, R2, S2, El, h2⟩ => ?_
    refine tX_imp (tX_bind (rel := fun _ _ _ _ (x : Option Int) r => x = r) R2 (S1.trans S2) h2) fun u H3 ⟨u', e3, F3, R3, S3, Eu, h3⟩ => ?_
    subst El Eu
    split at h3
    · rename_i hz
      exact ⟨z, rfl, hz, h3 _ F3 H3 R3 ((S1.trans S2).trans S3) (.str _)⟩
    · exact h3.elim
  · exact (h1 : False).elim
/-! ### a number that the module holds -/
theorem qgint {x : Str} {i : Int} {p : Pos} (hg : Gl X x) (hm : ∃ t, X.mg x = some (.int i t)) (hd : (x == ("__debug__" : Str)) = false := by decide) : QE X W (.Name x p) (eK (.int i)) := by
  obtain ⟨t, hm⟩ := hm
  exact pe_mono (pe_glob (v := .int i) hg hm ⟨t, rfl⟩ hd) fun σ H Q ⟨e, F, R, h⟩ => h _ F H R .refl (.int i)
end
/-! ### xs.extend(a tuple) -/
def MutDoes2 (K : PySem.W.Frag) (r : V → List V → Hp → VK → Prop) (g : List T → List T → Option (List T × T)) : Prop :=
  ∀ (p : Addr) (xs vs : List V) (ts us : List T) (ts' : List T) (w : T) (F H : Hp) (Q : VK), (∀ a o, F a = some o → H a = some o) → H p = some (.lst xs) → DpAll K F xs ts → DpAll K F vs us → g ts us = some (ts', w) →
    (∀ xs' v, DpAll K F xs' ts' → Dp K F v w → Q v (upd H p (.lst xs'))) → r (.ref p) vs H Q
section
variable {X : Cx} {W : WX} {a b c : Expr} {ma mb mc : SemE} {pos : Pos}
theorem mut_read2 {K : PySem.W.Frag} {i : Nat} {r : V → List V → Hp → VK → Prop} {g : List T → List T → Option (List T × T)} {m : SemA} (hr : MutDoes2 K r g) {σ : Sg} {H : Hp} {Q : VK} (h : tE K W (eMut i g m) σ H Q) :
    ∃ p, σ[i]? = some (some (.ref p)) ∧ (∃ xs, SqL K H p xs) ∧ tA K W m σ H fun vs H2 => r (.ref p) vs H2 Q := by
  obtain ⟨e, F, R, h⟩ := h
  simp only [eMut] at h
  cases q : e[i]? with
  | none => rw [q] at h; exact h.elim
  | some s =>
    rw [q] at h
    cases s with
    | un => exact h.elim
    | v _ => exact h.elim
    | fz _ => exact h.elim
    | ow l z =>
      cases z with
      | d _ => exact h.elim
      | m _ => exact h.elim
      | n _ => exact h.elim
      | l ts0 =>
        simp only at h
        obtain ⟨o, hs, p, ep, hf, xs0, hx0, d0⟩ := R.var q
        subst ep
        refine ⟨p, hs, ⟨xs0, SqL.of hx0⟩, ?_⟩
        refine tX_imp (tX_bind (rel := fun σ Hs F H xs rs => OdsR K σ Hs F H rs xs) R .refl h) fun vs H1 ⟨rs, e1, F1, R1, S1, O1, h1⟩ => ?_
        cases q1 : escs rs e1 with
        | none => simp only [q1] at h1; exact h1.elim
        | some te =>
          obtain ⟨us, e2⟩ := te
          simp only [q1] at h1
          obtain ⟨F2, R2, S2, d2, _⟩ := escs_ok R R1 S1 O1 q1
          cases q2 : e2[i]? with
          | none => rw [q2] at h1; exact h1.elim
          | some s2 =>
            rw [q2] at h1
            cases s2 with
            | un => exact h1.elim
            | v _ => exact h1.elim
            | fz _ => exact h1.elim
            | ow l2 z2 =>
              cases z2 with
              | d _ => exact h1.elim
              | m _ => exact h1.elim
              | n _ => exact h1.elim
              | l ts =>
                simp only at h1
                obtain ⟨p', ep, hf2, xs, hx, d⟩ := R2.at_ i _ _ q2 hs
                cases ep
                cases q3 : g ts us with
                | none => rw [q3] at h1; exact h1.elim
                | some tw =>
                  obtain ⟨ts', w⟩ := tw
                  rw [q3] at h1
                  refine hr p xs vs ts us ts' w F2 H1 Q R2.sub hx d d2 q3 fun xs' v d' dw => ?_
                  obtain ⟨R3, S3⟩ := upd_own R2 q2 hs d'
                  exact h1 v F2 _ R3 (S2.trans S3) dw
theorem qmeth2 {i : Nat} {x name : Str} {p apos cpos : Pos} {id : String} {r : V → List V → Hp → VK → Prop} {g : List T → List T → Option (List T × T)} {m : SemA} {es : List Expr} (slot : Slot "list" name id) (hty : typeOf (.builtin id) = pure (.type "method_descriptor")) (hm : MtR X id r) (hr : MutDoes2 X.K r g)
    (hN : X.N[i]? = some x) (hv : Vis X.env.scope x) (ha : QA X W (a :: es) m) (hd : (x == ("__debug__" : Str)) = false := by decide) (hcd : (x == ("__classdict__" : Str)) = false := by decide)
    (hbase : attributeBase (.Name x p) name X.env (eval (.Name x p) X.env) = eval (.Name x p) X.env := by rfl)
    (hfew : ((backTo cpos (starEach (a :: es) X.env)).all (fun x => !x.1) && (backToKw cpos (keywordEach [] X.env)).all (fun x => x.1.isSome)
      && decide ((a :: es).length + ([] : List Keyword).length + (if ([] : List Keyword).isEmpty then 0 else 1) < 30)) = true := by rfl)
    (hline : (apos.endLine == cpos.line) = true := by rfl) (hs : starEach (a :: es) X.env = (false, eval a X.env) :: starEach es X.env := by rfl) (hplain : (backTo cpos (starEach es X.env)).any (·.1) = false := by rfl) :
    QE X W (.Call (.Attribute (.Name x p) name apos) (a :: es) [] cpos) (eMut i g m) :=
  pe_mono (pe_bm PySem.F.plainAttrs_list slot hty hm (pe_var hN hv hd hcd) ha hbase hfew hline hs hplain) fun σ H Q h => by
    obtain ⟨p, hs, hl, h⟩ := mut_read2 hr h
    exact ⟨_, hs, .inl ⟨rfl, hl⟩, h⟩
end
theorem extend_tup (l : Addr) (items : Array Value) (n : Nat) (b : Addr) (items2 : Array Value) (n2 : Nat) (dc : Option Addr) (sl : Array (Option Value)) (hs0 : ¬(!items.isEmpty && Builtin.List.listTooLong (items.size + items2.size)) = true) (hs1 : items.size ≤ sizeLine) (hs2 : items.size + items2.size ≤ sizeLine + 1) :
    Meets (Builtin.«list.extend» ⟨[.ref l, .ref b], []⟩) (fun _ R s => s.heap.get? l = some { cls := .type "list", dict := none, data := .seq items n, slots := #[] } ∧ s.heap.get? b = some { cls := .type "tuple", dict := dc, data := .seq items2 n2, slots := sl } ∧ R (.ok (.ret Value.none)) { s with heap := s.heap.update l (Obj.mapSeq fun x => x ++ items2), toks := s.toks }) :=
  .of_wp fun prog w A R s h => by
    obtain ⟨hp, g, d, tk, os⟩ := s; obtain ⟨hl, hb, h⟩ := h; have f1 := AutoSeq1.idx_int; have f2 := AutoSeq1.sub_tuple_tuple; have f3 := AutoSeq1.sub_list_list; have f4 := AutoSeq1.sub_tuple_list; have f5 := AutoSeq1.sub_list_tuple;
    have hz' : (items ++ items2).size ≤ sizeLine + 1 := by rw [Array.size_append]; exact hs2
    wp_walk using (wpAny_updateSeq hl rfl (hz := hs1) (_hz' := hz')), AutoSeq1.wpAny_loadPart' hl, AutoSeq1.wpAny_loadPart' hb; exact ⟨_, rfl, h⟩
def rExtT (K : PySem.W.Frag) : V → List V → Hp → VK → Prop := fun x vs H Q => ∃ l b xs zs, x = .ref l ∧ vs = [.ref b] ∧ H l = some (.lst xs) ∧ SqT K H b zs ∧ xs.length + zs.length ≤ sizeLine ∧ Q .non (upd H l (.lst (xs ++ zs)))
theorem mt_extT {X : Cx} : MtM X "list.extend" (rExtT X.K) := by
  intro pins s σ H x vs v us Q I rx rv h
  obtain ⟨l, b, xs, zs, rfl, rfl, hH, hB, hz, q⟩ := h
  cases rx
  obtain ⟨u, rfl, ru⟩ := rv.one
  cases ru
  obtain ⟨z, its, n, r, hl, e⟩ := I.lstM hH
  obtain ⟨its2, r2, ⟨o2, e2, c2, n2, d2⟩, hz2⟩ := I.tuple hB
  have hl2 := r2.length
  have hsz : its.toArray.size + its2.toArray.size ≤ sizeLine := by rw [List.size_toArray, List.size_toArray]; omega
  have hlong : ¬ (!its.toArray.isEmpty && Builtin.List.listTooLong (its.toArray.size + its2.toArray.size)) = true := by
    rw [notLongL hsz, Bool.and_false]
    exact Bool.false_ne_true
  obtain ⟨cls, dct, dat, sl⟩ := o2
  cases c2
  cases d2
  refine call_meets F.slot_list_extend ⟨_, e, rfl⟩ F.entry_list_extend (F.args_list_extend_2 _ _) (extend_tup l its.toArray n b its2.toArray n2 dct sl hlong (by rw [List.size_toArray]; omega) (by omega)) ⟨e, e2, ?_⟩
  refine ⟨.non, _, I.lset (its' := its ++ its2) hH e (by simp) (r.append r2) ?_, rfl, q⟩
  rw [List.length_append]
  omega
def gExtT : List T → List T → Option (List T × T)
  | ts, [.tuple us] => if ts.length + us.length ≤ sizeLine then some (ts ++ us, .none) else none
  | _, _ => none
theorem does_extT {K : PySem.W.Frag} : MutDoes2 K (rExtT K) gExtT := by
  intro p xs vs ts us ts' w F H Q ff hx d dv hg q
  cases dv with
  | nil => cases hg
  | cons a dv =>
    cases dv with
    | cons _ _ =>
      unfold gExtT at hg
      split at hg
      · rename_i h; cases h
      · cases hg
    | nil =>
      cases a with
      | tup h1 d1 =>
        simp only [gExtT] at hg
        split at hg
        · rename_i hl
          cases hg
          exact ⟨p, _, xs, _, rfl, rfl, hx, tupS ff h1, by rw [dpAll_len d, dpAll_len d1]; exact hl, q _ _ (dpAll_app d d1) .non⟩
        · cases hg
      | _ => cases hg
end Ev

set_option Elab.async false
set_option linter.all false
set_option maxRecDepth 100000
set_option maxHeartbeats 2000000
namespace Ev
open PySem PySem.Spec PyProof.Rows L2
/-! ### a tuple unpacked while an exception is handled -/
section
variable {prog : Program} {w : World} {A : Around} {E : Value → Shared → Prop} {s : Shared}
theorem next_end_hot {it t x1 : Addr} {i : Nat} {items : Array Value} {Q : Option Value → Shared → Prop} (hot : HotX.HotAt A x1 s.heap) (hne : x1 ≠ it)
    (hit : IsTupIter s.heap it t i) (ht : IsTup s.heap t items) (hx : items[i]? = none)
    (hQ : ∀ h', Heap.ExtBut it s.heap h' → Q none { s with heap := h' }) : wpAny (model prog w) A (pyNext (.ref it)) Q E s := by
  obtain ⟨o, ho, hc, hd⟩ := id hit
  obtain ⟨ol, hol, _, nl, hdl⟩ := ht
  obtain ⟨hh, o1, vs1, h1, d1, c1⟩ := hot
  unfold pyNext
  refine wpAny_bind (wpAny_attempt (wpAny_callSpecial?_slot (name := Str.ofString "__next__") hit.typeIs slot_tupleiter_next
    (wpAny_call_entry slot_tupleiter_next hit.typeIs entry_tupleiter_next ?_ (args_tupleiter_next _))))
  show wpAny _ _ (field (.ref it) 0 >>= _) _ _ s
  refine wpAny_bind (wpAny_field ho hd (x := .ref t) rfl ?_)
  show wpAny _ _ (if (Value.ref t == Value.none) = true then _ else _) _ _ s
  rw [if_neg (show ¬ ((Value.ref t == Value.none) = true) from Bool.false_ne_true)]
  show wpAny _ _ (field (.ref it) 1 >>= _) _ _ s
  refine wpAny_bind (wpAny_field ho hd (x := .int i 0) rfl ?_)
  show wpAny _ _ (seqItems? (.ref t) >>= _) _ _ s
  refine wpAny_bind (wpAny_seqItems hol hdl ?_)
  simp only [Int.toNat_natCast, hx]
  refine wpAny_bind (wpAny_rule (wpAny_bind (wpAny_setField ho hd (by simp) ?_)))
  have h2 := (Heap.get?_update_other s.heap (Obj.mapFields (·.setIfInBounds 0 Value.none)) (Ne.symm hne)).trans h1
  show wpAny _ _ (newExc (.type "StopIteration") [] >>= _) _ _ _
  refine wpAny_bind ?_
  simp only [newExc, newTuple]
  refine wpAny_bind (wpAny_newObj_type ?_ (by size_fits))
  refine wpAny_bind (m := firstArgMember _ _) (wpAny_of_eq (a := Value.none) (by first | rfl | (simp only [firstArgMember]; rfl)) ?_)
  refine wpAny_newObj_type ?_ (by size_fits)
  refine HotX.raiseNew_hot ⟨hh, o1, vs1, Heap.get?_push_of_some _ (Heap.get?_push_of_some _ h2), d1, c1⟩ (Nat.ne_of_lt (Heap.lt_size (Heap.get?_push_of_some _ h2))) (Heap.get?_push_size _ rfl) rfl (by first | (simp; done) | (simp; omega) | (simp only [Array.size_append]; simp; omega)) ?_
  refine wpAny_bind (wpAny_isInstance (T := "StopIteration") (b := true) ⟨_, Heap.get?_update_self _ (Heap.get?_push_size _ rfl) rfl, rfl⟩ isSubtype_stop ?_)
  refine wpAny_pure (hQ _ fun b o hb e => ?_)
  have e2 := (Heap.get?_update_other s.heap (Obj.mapFields (·.setIfInBounds 0 Value.none)) (Ne.symm hb)).trans e
  rw [Heap.get?_update_other _ _ (Nat.ne_of_gt (Heap.lt_size (Heap.get?_push_of_some _ e2)))]
  exact Heap.get?_push_of_some _ (Heap.get?_push_of_some _ e2)
theorem unpack_hot {t x1 : Addr} {items : Array Value} {Q : List Value → Shared → Prop} (hot : HotX.HotAt A x1 s.heap) (ht : IsTup s.heap t items)
    (hQ : ∀ h', Heap.ExtBut s.heap.objs.size s.heap h' → Q items.toList { s with heap := h' }) : wpAny (model prog w) A (unpackItems (.ref t) items.size none) Q E s := by
  have hlt : t ≠ s.heap.objs.size := by obtain ⟨o, ho, _⟩ := ht; exact Nat.ne_of_lt (Heap.lt_size ho)
  have hx1 : x1 ≠ s.heap.objs.size := by obtain ⟨_, o, _, ho, _⟩ := hot; exact Nat.ne_of_lt (Heap.lt_size ho)
  unfold unpackItems
  refine wpAny_bind ?_
  · unfold notIterableAtAll
    refine wpAny_bind (wpAny_specialOf ht.typeIs slot_tuple_iter.lookup ?_)
    refine wpAny_pure ?_
    simp only [Bool.false_eq_true, if_false]
    refine wpAny_bind (wpAny_holding (iter_tuple ht ?_))
    refine wpAny_bind (wpAny_holding (draw_tuple hlt items.size 0 _ _ ⟨_, Heap.get?_push_size _ rfl, rfl, rfl⟩ (ht.push _) (by omega) fun h₁ hit₁ hs₁ => ?_))
    have hall : List.take items.size (List.drop 0 items.toList) = items.toList := by
      rw [List.drop_zero]; exact List.take_of_length_le (by simp)
    rw [hall]
    rw [if_neg (by simp)]
    have ht₁ : IsTup h₁ t items := (ht.push _).extBut hs₁.extBut hlt
    have hot₁ : HotX.HotAt A x1 h₁ := by
      obtain ⟨hh, o1, vs1, h1, d1, c1⟩ := hot
      exact ⟨hh, o1, vs1, hs₁.extBut x1 o1 hx1 (Heap.get?_push_of_some _ h1), d1, c1⟩
    refine wpAny_bind (wpAny_holding (next_end_hot hot₁ hx1 hit₁ ht₁ (by simp) fun h₂ he₂ => ?_))
    simp only [Option.isSome_none, Bool.false_eq_true, if_false]
    refine wpAny_pure (hQ h₂ fun b o hb e => he₂ b o hb (hs₁.extBut b o hb (Heap.get?_push_of_some _ e)))
end
/-- a, b = x, y in an except suite -/
theorem ps_par_hot {X : Cx} {i j : Nat} {x y : Str} {a b : Expr} {ta : TA} {px py pt pos : Pos} {kt k2 pt2} (hc : L2H.HotC X) (hN : X.N.Nodup) (hi : X.N[i]? = some x) (hj : X.N[j]? = some y) (hij : i ≠ j)
    (hx : X.env.scope.names.lookup x = some .local) (hy : X.env.scope.names.lookup y = some .local) (ha : PA X [a, b] ta)
    (hw : swappedStores [.Tuple [.Name x px, .Name y py] kt pt] (.Tuple [a, b] k2 pt2) X.env = pure (some [x, y]))
    (hs : swapsWithSole [.Tuple [.Name x px, .Name y py] kt pt] (.Tuple [a, b] k2 pt2) pos.line X.env = pure false := by rfl) :
    PS X (.Assign [.Tuple [.Name x px, .Name y py] kt pt] (.Tuple [a, b] k2 pt2) pos) (tPar i j ta) := by
  refine ⟨fun pins s σ H D I h => ?_⟩
  rw [exec_Assign_arm]
  refine wpAny_bind (wpAny_standAt ?_)
  rw [hs]
  refine wpAny_bind (wpAny_pure ?_)
  rw [if_neg (by decide)]
  refine wpAny_bind (Tuple_ (thn (ha.run _ pins s σ H _ I h) fun us s1 ⟨vs, H1, I1, r1, q1⟩ => ?_))
  obtain ⟨v, w, e1, q1⟩ := q1
  subst e1
  have r2 : ∃ u1 u2, us = [u1, u2] ∧ RelV v u1 ∧ RelV w u2 := by
    rcases r1 with _ | ⟨p, q⟩
    rcases q with _ | ⟨p', q'⟩
    rcases q'
    exact ⟨_, _, rfl, p, p'⟩
  obtain ⟨u1, u2, eu, rv, rw'⟩ := r2
  subst eu
  refine wpAny_newObj_type ?_ (by show 2 ≤ sizeLine; decide)
  have I2 : Inv X pins σ H1 { s1 with heap := s1.heap.push { cls := .type "tuple", data := .seq [u1, u2].toArray } } := I1.kept (t' := s1.toks) fun b o e => Heap.get?_push_of_some _ e
  obtain ⟨x1, hot⟩ := hc.at I2
  rw [hw]
  refine wpAny_bind (wpAny_pure ?_)
  show wpAny (model X.prog X.w) X.A (do rule "assign.swapped-stores"; let items ← unpackItems (.ref s1.heap.objs.size) 2 none; assignInOrder [fun v => bindName X.env y v, fun v => bindName X.env x v] items.reverse; pure Flow.next) _ _ _
  refine wpAny_bind (wpAny_rule (wpAny_bind (unpack_hot (items := #[u1, u2]) hot (IsTup.new s1.heap _) fun h' hx' => ?_)))
  have I3 := I2.kept (h' := h') (t' := s1.toks) fun b o e => hx' b o (Nat.ne_of_lt (Heap.lt_size e)) e
  show wpAny _ _ (assignInOrder [fun v => bindName X.env y v, fun v => bindName X.env x v] [u2, u1] >>= fun _ => pure Flow.next) _ _ _
  refine wpAny_bind (assignInOrder_cons (wpAny_bindName (store_ok I3 hN hj (.inl hy) rw' (fun s2 I4 => ?_) (.inr hy))))
  refine assignInOrder_cons (wpAny_bindName (store_ok I4 hN hi (.inl hx) rv (fun s3 I5 => assignInOrder_nil (wpAny_pure ?_)) (.inr hx)))
  rw [List.set_comm _ _ (Ne.symm hij)] at I5
  exact ⟨_, H1, I5, q1⟩
end Ev

set_option Elab.async false
set_option linter.all false
set_option maxRecDepth 100000
set_option maxHeartbeats 2000000
namespace Ev
open PySem PySem.Spec PyProof.Rows L2
/-! ### several except clauses, with a name or without -/
abbrev HTs := Addr → Value → Option Addr → TS
/-- the ends of a suite whose name i is unbound behind it -/
def offD (i : Nat) (D : Ends) : Ends := { nx := fun σ' H' => D.nx (σ'.set i none) H', rt := D.rt, bk := fun σ' H' => D.bk (σ'.set i none) H', ct := fun σ' H' => D.ct (σ'.set i none) H' }
def wEx (K : PySem.W.Frag) (Wout : WX) (D : Ends) : List (Value × Option Nat × HTs) → WX
  | [] => Wout
  | (c, none, ts) :: r => fun cls d σ H => ∃ b, PySem.W.exmOne K cls c = some b ∧ (b = true → ∀ a, H a = none → ts a cls d D σ H) ∧ (b = false → wEx K Wout D r cls d σ H)
  | (c, some i, ts) :: r => fun cls d σ H => ∃ b, PySem.W.exmOne K cls c = some b ∧ (b = true → ∀ a, H a = none → ts a cls d (offD i D) (σ.set i (some (.ref a))) H) ∧ (b = false → wEx K Wout D r cls d σ H)
/-- a suite's reading -/
abbrev SuOk (X : Cx) (suite : List Stmt) (ts : HTs) : Prop := ∀ (a : Addr) (oe : Obj) (cls : Value) (d : Option Addr) (pn : List (Addr × Obj)), L2N.Zn cls d oe → (∃ vs, oe.data = .fields vs) → PSs (X.suite a ((a, oe) :: pn)) suite (ts a cls d)
inductive HxOk (X : Cx) : List ExceptHandler → List (Value × Option Nat × HTs) → Prop
  | nil : HxOk X [] []
  | plain {x : Str} {c : Value} {ts : HTs} {b₀ : Stmt} {suite : List Stmt} {np pos' : Pos} {hds : List ExceptHandler} {l : List (Value × Option Nat × HTs)} (hc : Names X x c) (hsu : SuOk X (b₀ :: suite) ts) (r : HxOk X hds l) :
      HxOk X (.ExceptHandler (some (.Name x np)) none (b₀ :: suite) pos' :: hds) ((c, none, ts) :: l)
  | named {x n : Str} {c : Value} {i : Nat} {ts : HTs} {b₀ : Stmt} {suite : List Stmt} {np pos' : Pos} {hds : List ExceptHandler} {l : List (Value × Option Nat × HTs)} (hc : Names X x c) (hi : X.N[i]? = some n) (hln : X.env.kindOf n = some .local)
      (hsu : SuOk X (b₀ :: suite) ts) (r : HxOk X hds l) : HxOk X (.ExceptHandler (some (.Name x np)) (some n) (b₀ :: suite) pos' :: hds) ((c, some i, ts) :: l)
section
variable {X : Cx} {body : List Stmt} {h₀ : ExceptHandler} {hds : List ExceptHandler} {l : List (Value × Option Nat × HTs)} {pos : Pos} {tb : WX → TS} {Wout : WX}
/-- the ends of a body whose exceptions are looked for are those of the statement -/
theorem sp_back {pins : List (Addr × Obj)} {xe : Value → Shared → Prop} {D : Ends} {f : Flow} {s1 : Shared} (ok : X.Ok) (h : SP (X.tr (X.pn ++ pins) xe) [] D f s1) : SP X pins D f s1 := by
  cases f with
  | next => obtain ⟨σ', H', J, q⟩ := h; exact ⟨σ', H', J.ofTry ok, q⟩
  | brk => obtain ⟨σ', H', J, q⟩ := h; exact ⟨σ', H', J.ofTry ok, q⟩
  | cont => obtain ⟨σ', H', J, q⟩ := h; exact ⟨σ', H', J.ofTry ok, q⟩
  | ret u => obtain ⟨v, σ', H', J, r, q⟩ := h; exact ⟨v, σ', H', J.ofTry ok, r, q⟩
theorem ps_try_ex (hs : X.stack = X.env :: X.outer) (hf : X.env.frame = some X.env.locals) (hN : X.N.Nodup) (tk : L2N.Takes X Wout)
    (hb : ∀ (W : WX) (pn : List (Addr × Obj)) (xe : Value → Shared → Prop), L2N.Takes (X.tr pn xe) W → PassesOwn (model X.prog X.w) X.A X.env xe → PSs (X.tr pn xe) body (tb W))
    (hh : HxOk X (h₀ :: hds) l) : PS X (.Try body (h₀ :: hds) [] [] pos) (fun D σ H => tb (wEx X.K Wout D l) D σ H) := by
  refine ⟨fun pins s σ H D I h => ?_⟩
  have ok := I.ok
  have hfr : X.A.frames = some (X.env :: X.outer) := by rw [ok.frames, hs]
  refine wpAny_Try_except ?_
  refine wpAny_mono ((hb (wEx X.K Wout D l) (X.pn ++ pins) (fun e s₁ => wpAny (model X.prog X.w) X.A (noteFrame e X.env) (fun _ s₂ => wpAny (model X.prog X.w) X.A (setFlight e none) (fun _ s₃ =>
    wpAny (model X.prog X.w) X.A (handleBy e X.env (h₀ :: hds)) (SP X pins D) X.xe s₃) X.xe s₂) X.xe s₁) (fun u s' xx => ?_) PassesOwn.looking).run [] s σ H D (I.toTry _) h) (fun f s1 hsp => ?_) (fun e s1 he => he)
  · obtain ⟨a, B, sI, pins', σ', H', cls, d, rfl, J', nb, up, sky, na, os, ag, w⟩ := xx
    have J : Inv X pins σ' H' sI := J'.ofTry ok
    have sky' : Sky B (X.env :: X.outer) a (L2N.Zn cls d) X.env.locals s'.heap := by rw [← hs]; exact sky
    show wpAny (model X.prog X.w) X.A (noteFrame (.ref a) X.env) _ _ _
    refine L2N.Sky.land L2N.Zn.steady hfr hf sky' fun h3 fl3 up3 => ?_
    have J3 : Inv X pins σ' H' { s' with heap := h3 } := J.landed nb fl3.1 (up.trans up3) os ag
    obtain ⟨oe3, vs3, he3, hz3, hd3⟩ := fl3.there
    have nfr : a ∉ frs (X.env :: X.outer) := fun hm => by
      obtain ⟨_, o', e', hnf⟩ := fl3.2.2.1.mem hm
      rw [he3] at e'; cases e'
      exact hnf _ hd3
    have nL : a ≠ X.env.locals := fun z => nfr (List.mem_filterMap.mpr ⟨X.env, List.mem_cons_self, by rw [hf, z]⟩)
    have nF : a ∉ X.fs := fun hm => by
      obtain ⟨e, he, q⟩ := List.mem_filterMap.mp hm
      exact nfr (List.mem_filterMap.mpr ⟨e, List.mem_cons_of_mem _ he, q⟩)
    have S3 := J3.suite he3 hd3 na nL nF
    have test : ∀ {x : Str} {c : Value} {np : Pos} {Q : Value → Shared → Prop} {E : Value → Shared → Prop}, Names X x c → Q c { s' with heap := h3 } → wpAny (model X.prog X.w) (X.A.mark (some (.ref a))) (eval (.Name x np) X.env) Q E { s' with heap := h3 } := fun {x c np Q E} hc q => by
      obtain ⟨hg, hdbg, hm | ⟨hm, hv, hnn⟩⟩ := hc
      · exact ld_glob (X := X.suite a ((a, oe3) :: (X.pn ++ pins))) S3 hg hm q hdbg
      · exact ld_blt (X := X.suite a ((a, oe3) :: (X.pn ++ pins))) S3 hg hm hv q hnn hdbg
    have LT : PySem.W.Looks (model X.prog X.w) h3 (typeOf (.ref a)) cls := fun A Q E s k q => wpAny_typeOf_ref (k _ _ he3) (by rw [hz3.1]; exact q)
    have go : ∀ {hds' : List ExceptHandler} {l' : List (Value × Option Nat × HTs)}, HxOk X hds' l' → wEx X.K Wout D l' cls d σ' H' →
        wpAny (model X.prog X.w) X.A (handleBy (.ref a) X.env hds') (SP X pins D) X.xe { s' with heap := h3 } := by
      intro hds' l' hk
      induction hk with
      | nil =>
        intro w
        refine wpAny_handleBy_nil ?_
        obtain ⟨k1, k2, k3, oe, vs, T, oT, ts', he, hz, hd, h1, hr⟩ := id fl3
        unfold PySem.passOn
        refine wpAny_bind (wpAny_field he hd h1 ?_)
        rw [if_neg (show ¬ ((Value.ref T == Value.none) = true) from by simp)]
        have fin : wpAny (model X.prog X.w) X.A (setFlight (.ref a) X.env.frame) (fun _ s4 => wpAny (model X.prog X.w) X.A (throw (.ref a) : Sem Flow) (SP X pins D) X.xe s4) X.xe { s' with heap := h3 } := by
          rw [hf]
          refine HandSPX.setFlight_upZ fl3 fun h4 hh4 up4 => wpAny_throw (tk _ _ ?_)
          exact ⟨a, B, sI, pins, σ', H', cls, d, rfl, J, nb, (up.trans up3).trans up4, .inr (.inr (by rw [hs]; exact hh4)), na, os, ag, w⟩
        first
          | exact wpAny_bind (wpAny_pure (wpAny_bind fin))
          | exact wpAny_bind fin
      | @plain x c ts b₀ suite np pos' hds2 l2 hc hsu r ih =>
        rintro ⟨b, hb1, hyes, hno⟩
        refine wpAny_handleBy_cons (codeAny_handlers_test ?_) (by intro q; cases q)
        refine test hc ((PySem.W.exm_one (M := model X.prog X.w) (J3.kIn) LT hb1).here ?_)
        cases b with
        | true =>
          refine codeAny_handlers_suite ?_
          refine HandSPX.lands_againZ fl3 fun h4 fl4 up4 => ?_
          have J4 : Inv X pins σ' H' { s' with heap := h4 } := J.landed nb fl4.1 ((up.trans up3).trans up4) os ag
          obtain ⟨oe4, vs4, he4, hz4, hd4⟩ := fl4.there
          have S4 := J4.suite he4 hd4 na nL nF
          refine wpAny_mono ((hsu a oe4 cls d (X.pn ++ pins) hz4 ⟨_, hd4⟩).run [] _ _ H' _ S4 (hyes rfl a na)) (fun f s6 hsp => ?_) (fun _ _ z => False.elim z)
          cases f with
          | next => obtain ⟨σ6, H6, S6, q6⟩ := hsp; exact ⟨_, _, S6.unsuite ok, q6⟩
          | brk => obtain ⟨σ6, H6, S6, q6⟩ := hsp; exact ⟨_, _, S6.unsuite ok, q6⟩
          | cont => obtain ⟨σ6, H6, S6, q6⟩ := hsp; exact ⟨_, _, S6.unsuite ok, q6⟩
          | ret u => obtain ⟨v6, σ6, H6, S6, r6, q6⟩ := hsp; exact ⟨_, _, _, S6.unsuite ok, r6, q6⟩
        | false =>
          show wpAny _ X.A (handleBy (.ref a) X.env hds2) _ _ _
          exact ih (hno rfl)
      | @named x n c i ts b₀ suite np pos' hds2 l2 hc hi hln hsu r ih =>
        rintro ⟨b, hb1, hyes, hno⟩
        refine wpAny_handleBy_cons (codeAny_handlers_test ?_) (by intro q; cases q)
        refine test hc ((PySem.W.exm_one (M := model X.prog X.w) (J3.kIn) LT hb1).here ?_)
        cases b with
        | true =>
          refine codeAny_handlers_suite_as ?_
          refine HandSPX.lands_againZ fl3 fun h4 fl4 up4 => ?_
          have J4 : Inv X pins σ' H' { s' with heap := h4 } := J.landed nb fl4.1 ((up.trans up3).trans up4) os ag
          obtain ⟨oe4, vs4, he4, hz4, hd4⟩ := fl4.there
          have S4 := J4.suite he4 hd4 na nL nF
          refine store_ok (X := X.suite a ((a, oe4) :: (X.pn ++ pins))) (v := .ref a) S4 hN hi (.inl hln) rfl (fun s5 S5 => ?_) (.inr hln)
          refine wpAny_mono ((hsu a oe4 cls d (X.pn ++ pins) hz4 ⟨_, hd4⟩).run [] s5 _ H' _ S5 (hyes rfl a na)) (fun f s6 hsp => ?_) (fun _ _ z => False.elim z)
          have end_ : ∀ {σ6 : L2.St} {H6 : Hp} {Q : Shared → Prop}, Inv (X.suite a ((a, oe4) :: (X.pn ++ pins))) [] σ6 H6 s6 → (∀ s7, Inv X pins (σ6.set i none) H6 s7 → Q s7) →
              wpAny (model X.prog X.w) X.A (do bindName X.env n .none; unbindBehindTheSuite X.env n pos') (fun _ s7 => Q s7) X.xe s6 := fun {σ6 H6 Q} S6 hq => gone_ok (S6.unsuite ok) hN hi hln hq
          cases f with
          | next => obtain ⟨σ6, H6, S6, q6⟩ := hsp; exact end_ S6 fun s7 J7 => ⟨_, _, J7, q6⟩
          | brk => obtain ⟨σ6, H6, S6, q6⟩ := hsp; exact end_ S6 fun s7 J7 => ⟨_, _, J7, q6⟩
          | cont => obtain ⟨σ6, H6, S6, q6⟩ := hsp; exact end_ S6 fun s7 J7 => ⟨_, _, J7, q6⟩
          | ret u => obtain ⟨v6, σ6, H6, S6, r6, q6⟩ := hsp; exact end_ S6 fun s7 J7 => ⟨_, _, _, J7, r6, q6⟩
        | false =>
          show wpAny _ X.A (handleBy (.ref a) X.env hds2) _ _ _
          exact ih (hno rfl)
    exact go hh w
  · have b := sp_back ok hsp
    cases f with
    | next => exact wpAny_execs_nil b
    | brk => exact b
    | cont => exact b
    | ret u => exact b
end
end Ev

set_option Elab.async false
set_option linter.all false
set_option maxRecDepth 100000
set_option maxHeartbeats 2000000
namespace Ev
open PySem PySem.Spec PyProof.Rows L2
/-! ### the classes of exceptions -/
structure ExcOk (K : PySem.W.Frag) (mg : Str → Option Value) (cs : List Str) : Prop where
  oex : ∀ c ∈ cs, OexC K (He.ga K c)
  xf : ∀ c ∈ cs, XfC K (He.ga K c)
  nov : ∀ c ∈ cs, PySem.W.findIn K (.ref (He.ga K c)) "value" = some none
  ini : ∀ c ∈ cs, PySem.W.findIn K (.ref (He.ga K c)) "__init__" = some (some (.ref (He.fAd K iniP)))
  ity : PySem.W.typeIn K (.ref (He.fAd K iniP)) = some (.type "function")
  glo : ∀ c ∈ cs, mg c = some (.ref (He.ga K c))
  exm : ∀ c ∈ cs, ∀ h ∈ cs, PySem.W.exmOne K (.ref (He.ga K c)) (.ref (He.ga K h)) = some (subE c h)
theorem oexB_ok {K : PySem.W.Frag} {C : Addr} (h : oexB K C = true) : ∃ nm q N bs bm sn sub ab col dd k0 k1 k2 k3 k5, K.lookup C = some (excClassObj nm q C N bs bm true sn sub ab col dd k0 k1 k2 k3 k5 "ValueError.__new__") ∧ PySem.HandSPX.refsVE bm = true := by
  unfold oexB at h
  split at h
  · rename_i t dd cd sl ho
    split at h
    · rename_i C' bm k0 k1 k2 k3 n k5 hm hs
      simp only [Bool.and_eq_true, decide_eq_true_eq, Bool.not_eq_true'] at h
      obtain ⟨rfl, rfl, rfl, hdel, hdict, hr⟩ := h
      obtain ⟨nm, bs, mro, ns, qn, hd, sn, sub, ab, col, del⟩ := cd
      dsimp only at hm hdel hdict
      subst hm hdel hdict
      obtain ⟨l⟩ := sl
      simp only at hs
      subst hs
      exact ⟨nm, qn, ns, bs, bm, sn, sub, ab, col, dd, k0, k1, k2, k3, k5, ho, hr⟩
    · cases h
  · cases h
theorem exB_ok {K : PySem.W.Frag} {h : Heap} {mg : Str → Option Value} {cs : List Str} (X : K.In h) (G : h.Ns mainGlobals mg) (q : exB cs K = true) : ExcOk K mg cs := by
  obtain ⟨q0, q⟩ := He.ba q
  have q1 := fun c (hc : c ∈ cs) => List.all_eq_true.mp q c hc
  unfold exB1 at q1
  have z := fun c hc => by
    obtain ⟨a1, w⟩ := He.ba (q1 c hc)
    obtain ⟨a2, w⟩ := He.ba w
    obtain ⟨a3, w⟩ := He.ba w
    obtain ⟨a4, w⟩ := He.ba w
    obtain ⟨a5, w⟩ := He.ba w
    obtain ⟨a6, w⟩ := He.ba w
    obtain ⟨a7, w⟩ := He.ba w
    obtain ⟨a8, w⟩ := He.ba w
    obtain ⟨a9, a10⟩ := He.ba w
    exact And.intro (OexC.mk (oexB_ok a1) (He.eqO_ok a2) (of_decide_eq_true a3) (of_decide_eq_true a4) a5) (And.intro (xfB_ok a6) (And.intro (He.eqO_ok a7) (And.intro (He.eqO_ok a8) (And.intro (He.glo_ok X G a9) fun h (hh : h ∈ cs) => of_decide_eq_true (List.all_eq_true.mp a10 h hh)))))
  exact ⟨fun c hc => (z c hc).1, fun c hc => (z c hc).2.1, fun c hc => (z c hc).2.2.1, fun c hc => (z c hc).2.2.2.1, of_decide_eq_true q0, fun c hc => (z c hc).2.2.2.2.1, fun c hc => (z c hc).2.2.2.2.2⟩
/-! ### __init__ -/
def spI (K : PySem.W.Frag) : Sp := fun vs H Q _ => ∃ (a C : Addr) (y : V), vs = [.ref a, y] ∧ OexC K C ∧ PySem.W.findIn K (.ref C) "value" = some none ∧ H a = some (exo a C none) ∧
  ∀ dx, H dx = none → dx ≠ a → Q .non (upd (upd H dx (exd dx [("value", y)])) a (exo a C (some dx)))
theorem ini_ok {P : Program} {w : World} {K : PySem.W.Frag} {mg : Str → Option Value} {base : Heap} {params : Arguments} {body : List Stmt} {scope : Scope} {f : Addr} {fd : FuncData} {p1 p2 p3 p4 : Pos}
    (Fn : FunD K "__init__" "ThreadError.__init__" params body scope [] [] f fd) (S : FnScope ["self", "value"] ["self", "value"] scope) (eb : body = [.Assign [.Attribute (.Name "self" p1) "value" p2] (.Name "value" p3) p4])
    (h0 : scope.names.lookup ("self" : Str) = some .local) (h1 : scope.names.lookup ("value" : Str) = some .local) :
    FnOk P w K mg base (L2N.CX P w) 1 f fd ["self", "value"] (spI K) := by
  subst eb
  refine Fn.ok S (fun vs H Q E ⟨a, C, y, e, _⟩ => by rw [e]; rfl) fun cdv A outer s H vs Q E hr ⟨a, C, y, ev, T, no, ea, q⟩ => ?_
  subst ev
  refine ⟨_, pss_cons (ps_ost (pe_var (i := 0) rfl (.inl h0)) (pe_var (i := 1) rfl (.inl h1))) pss_nil, ?_⟩
  exact ⟨y, rfl, .ref a, rfl, a, C, rfl, T, no, .inl ⟨ea, fun dx n ne => q dx n ne⟩⟩
/-! ### C(e) -/
section
variable {X : Cx} {W : WX} {B : Bd} {pos : Pos}
theorem pmk_exN {CX : CXT} {x : Str} {e : Expr} {es : List Expr} {ta : TA} {p : Pos} {C fI : Addr} {k : Nat} {fd : FuncData} {ps : List Str} {sp : Sp} (T : OexC X.K C) (iC : PySem.W.findIn X.K (.ref C) "__init__" = some (some (.ref fI))) (tI : PySem.W.typeIn X.K (.ref fI) = some (.type "function"))
    (F1 : FnOk X.prog X.w X.K X.mg X.base CX k fI fd ps sp) (hr : Room (k + 1) X.A) (hb : Binds X.K fd ps []) (hx : Passes CX X (fun _ _ _ => False)) (hg : Gl X x) (hm : X.mg x = some (.ref C)) (ha : PA X (e :: es) ta)
    (hdb : (x == ("__debug__" : Str)) = false := by decide) (he : starEach (e :: es) X.env = (false, eval e X.env) :: starEach es X.env := by rfl) (hpl : (backTo pos (starEach es X.env)).any (·.1) = false := by rfl) :
    L2N.PMk X (.Call (.Name x p) (e :: es) [] pos) (tMkO C sp [] ta) := by
  intro pins s σ H Q I h
  obtain ⟨nm, q, N, bs, bm, sn, sub, ab, col, dd, k0, k1, k2, k3, k5, hC, hbm⟩ := T.cls
  refine wpAny_Call_Name_kw (ld_glob I hg hm ?_ hdb)
  refine PySem.W.callWith_K (h₀ := X.base) I.ok.mod.kin T.kC (thn (ha.run pos pins s σ H _ I h) fun us s1 ⟨vs, H1, I1, r1, hz, q1⟩ => ⟨I1.kIn, ?_⟩) he hpl
  show wpAny _ _ (call (.ref C) us) _ _ _
  obtain ⟨hp, g, dr, tk, os⟩ := s1
  have hsz : hp.objs.size ≤ hp.objs.size + 1 := Nat.le_succ _
  have hq := q1 (hp.objs.size + 1) (I1.hok.fresh hsz)
  rw [List.append_nil] at hq
  have kk : ∀ b o, hp.get? b = some o → ((hp.push (PySem.W.kdv_tup us)).push (PySem.HandSPX.excO C hp.objs.size)).get? b = some o := fun b o e => Heap.get?_push_of_some _ (Heap.get?_push_of_some _ e)
  have hget : ((hp.push (PySem.W.kdv_tup us)).push (PySem.HandSPX.excO C hp.objs.size)).get? (hp.objs.size + 1) = some (PySem.HandSPX.excO C hp.objs.size) := by heap_get
  have I2 : Inv X pins σ (upd H1 (hp.objs.size + 1) (exo (hp.objs.size + 1) C none)) ⟨(hp.push (PySem.W.kdv_tup us)).push (PySem.HandSPX.excO C hp.objs.size), g, dr, tk, os⟩ :=
    I1.laid (t' := tk) (a := hp.objs.size + 1) (o := exo (hp.objs.size + 1) C none) (h' := (hp.push (PySem.W.kdv_tup us)).push (PySem.HandSPX.excO C hp.objs.size)) kk hsz (exo_ok hget)
  have r2 : Vals (V.ref (hp.objs.size + 1) :: vs) (Value.ref (hp.objs.size + 1) :: us) := .cons rfl r1
  have hl : (Value.ref (hp.objs.size + 1) :: us).length = ps.length := (F1.len _ _ _ _ hq).symm ▸ r2.length.symm
  have hus : us.length ≤ sizeLine := by
    rw [← Paired.length r1, sizeLine_eq]
    omega
  have b2 := hb _ (Value.ref (hp.objs.size + 1) :: us) I2.kIn (by rw [List.append_nil]; exact hl)
  rw [List.append_nil] at b2
  refine wpAny_call (PySem.HandSPX.call_own F.excBase_ValueError (fun Y => PySem.HandSPX.refsVE_contains Y bm hbm) (I1.kIn _ _ hC) (PySem.W.looks_findIn I1.kIn iC) (fun self => PySem.W.bind_fn I1.kIn self tI) hus
    (codeAny_mono (F1.run _ X.stack _ _ ⟨Value.ref (hp.objs.size + 1) :: us, []⟩ (Value.ref (hp.objs.size + 1) :: us) _ _ (fun _ _ _ => False) (hr.make C us []) (I2.env0.make C us []) b2 r2 hq) fun r s' hq' => ?_))
  cases r with
  | error er => exact hx pins σ _ _ er s' I2 hq'
  | ok fl =>
    cases fl with
    | ret u =>
      obtain ⟨v, H2, os2, bare2, un2, hok2, rv, ev, d, fs, ea, ed, hd1, q2⟩ := hq'
      subst ev
      obtain ⟨h2, g2, d2, t2, os'⟩ := s'
      obtain ⟨t0, G, J, kG, ge, hoe, na⟩ := mk_end0 (d2 := d2) (t2 := t2) I1 hsz kk un2 hok2 os2 bare2 ea ed hd1
      exact ⟨rv, hp.objs.size + 1, _, _, ⟨G, g2, d2, t2, os'⟩, _, .ref C, some d, rfl, J, kG, ge, hoe, ⟨rfl, rfl, fun vs hv => by cases hv; rfl⟩, rfl, rfl, na, rfl, bare2, raises_own T.exC T.tyC, q2⟩
    | next => exact False.elim hq'
    | brk => exact False.elim hq'
    | cont => exact False.elim hq'
/-! ### raise -/
def sRaise (c : Str) (me : SemE) : SemS := fun e => (me e).bind fun r e1 => match r with
  | .r t => .exc c t e1
  | _ => .bad
theorem qraise {x : Str} {a : Expr} {ma : SemE} {p pos2 : Pos} {k : Nat} {fd : FuncData} {cs : List Str} (hc : X.calm = true) (tk : L2N.Takes X W) (Ex : ExcOk X.K X.mg cs) (hin : x ∈ cs)
    (F1 : FnOk X.prog X.w X.K X.mg X.base (L2N.CX X.prog X.w) k (He.fAd X.K iniP) fd ["self", "value"] (spI X.K)) (hr : Room (k + 1) X.A) (hb : Binds X.K fd ["self", "value"] []) (hg : Gl X x) (ha : QE X W a ma)
    (hdb : (x == ("__debug__" : Str)) = false := by decide) (he : starEach [a] X.env = (false, eval a X.env) :: starEach [] X.env := by rfl) (hpl : (backTo pos (starEach [] X.env)).any (·.1) = false := by rfl) :
    QS X W B (.Raise (some (.Call (.Name x p) [a] [] pos)) none pos2) (sRaise x ma) := by
  refine ps_mono (L2N.ps_raise hc tk (pmk_exN (Ex.oex x hin) (Ex.ini x hin) Ex.ity F1 hr hb (fun _ _ _ _ _ _ _ ⟨_, _, _, _, _, _, _, _, _, _, _, _, w⟩ => w.elim) hg (Ex.glo x hin) (pa_cons ha pa_nil he) hdb he hpl)) fun D σ H h => ?_
  obtain ⟨e, F, R, k, h⟩ := h
  refine tX_imp (tS_bind (rel := fun σ => OdR X.K σ) R k h) fun y H1 ⟨r, e1, F1, R1, S1, k1, O, h1⟩ => ?_
  cases r with
  | s i => exact h1.elim
  | b b => exact h1.elim
  | r t =>
    refine ⟨by simp, fun a ha => ⟨a, He.ga X.K x, y, rfl, Ex.oex x hin, Ex.nov x hin, upd_same, fun dx hdx ne => ⟨rfl, dx, [("value", y)], upd_same, ?_, ?_, ?_⟩⟩⟩
    · rw [upd_ne ne, upd_same]
    · rw [upd_ne ne] at hdx; exact hdx
    · have hd : H1 dx = none := by rw [upd_ne ne] at hdx; exact hdx
      have eq : upd (del (upd (upd (upd H1 a (exo a (He.ga X.K x) none)) dx (exd dx [("value", y)])) a (exo a (He.ga X.K x) (some dx))) a) dx (.xd [("value", y)]) = upd H1 dx (.xd [("value", y)]) := by
        funext b
        by_cases hb : b = dx
        · subst hb; rw [upd_same, upd_same]
        · rw [upd_ne hb, upd_ne hb]
          by_cases hba : b = a
          · subst hba; rw [del_same, ha]
          · rw [del_ne hba, upd_ne hba, upd_ne hb, upd_ne hba]
      rw [eq]
      exact h1 σ F1 _ _ _ (laid_own R1 hd) (k1.step (laid_own_step hd)) ⟨rfl, dx, y, rfl, upd_same, O⟩
end
end Ev

set_option Elab.async false
set_option linter.all false
set_option maxRecDepth 100000
set_option maxHeartbeats 2000000
namespace Ev
open PySem PySem.Spec PyProof.Rows L2
/-! ### try: the meaning -/
abbrev Hds := List (Str × Option Nat × (T → SemS))
/-- a suite lets nothing out -/
def calmO (o : Out Fl) : Out Fl := match o with
  | .exc _ _ _ => .bad
  | o => o
/-- the name i is unbound behind the suite -/
def offO (i : Nat) (o : Out Fl) : Out Fl := match o with
  | .ok f e => if isLent e i then .bad else .ok f (e.set i .un)
  | _ => .bad
def hrun (c : Str) (t : T) (e : En) : Hds → Out Fl
  | [] => .exc c t e
  | (h, none, m) :: r => if subE c h then calmO (m t e) else hrun c t e r
  | (h, some i, m) :: r => if subE c h then (if isLent e i || decide (e.length ≤ i) then .bad else offO i (m t (e.set i .un))) else hrun c t e r
def sTry (cs : List Str) (mb : SemS) (hs : Hds) : SemS := fun e => match mb e with
  | .exc c t e' => if cs.contains c then hrun c t e' hs else .bad
  | o => o
section
variable {K : PySem.W.Frag} {W : WX} {B : Bd} {e : En} {σ : Sg} {F H : Hp}
theorem any_un {i : Nat} {o : Option V} (R : Rel K e σ F H) (k : BOk B e σ F H) (h : e[i]? = some .un ∨ e.length ≤ i) : Rel K e (σ.set i o) F H ∧ BOk B e (σ.set i o) F H := by
  rcases h with h | h
  · have at2 : ∀ (j : Nat) (s : Sl), e[j]? = some s → s ≠ .un → (σ.set i o)[j]? = σ[j]? := fun j s hj ne => by
      have : i ≠ j := fun z => ne (by rw [← z, h] at hj; exact (Option.some.inj hj).symm)
      exact List.getElem?_set_ne this
    refine ⟨⟨R.sub, by simp [R.len], fun j s u h1 h2 => ?_, fun j j' l b l' b' p h1 h2 h3 h4 => ?_⟩, ⟨k.ff, k.keep, k.dom, fun j b p h1 h2 => ?_, fun j b h1 => ?_, fun j b h1 => ?_⟩⟩
    · cases s with
      | un => trivial
      | v t => rw [at2 j _ h1 (by simp)] at h2; exact R.at_ j _ u h1 h2
      | ow l b => rw [at2 j _ h1 (by simp)] at h2; exact R.at_ j _ u h1 h2
      | fz b => rw [at2 j _ h1 (by simp)] at h2; exact R.at_ j _ u h1 h2
    · rw [at2 j _ h1 (by simp)] at h3; rw [at2 j' _ h2 (by simp)] at h4; exact R.ne j j' l b l' b' p h1 h2 h3 h4
    · rw [at2 j _ h1 (by simp)] at h2; exact k.fresh j b p h1 h2
    · rw [at2 j _ h1 (by simp)]; exact k.own j b h1
    · obtain ⟨⟨b', l⟩, q⟩ := k.lent j b h1
      refine ⟨⟨b', l⟩, ?_⟩
      rcases l with l | l
      · rw [at2 j _ l (by simp)]; exact q
      · rw [at2 j _ l (by simp)]; exact q
  · have : σ.set i o = σ := List.set_eq_of_length_le (by rw [← R.len]; exact h)
    rw [this]; exact ⟨R, k⟩
/-- the reading of a suite: i is the name that holds the exception -/
def tXs (K : PySem.W.Frag) (B : Bd) (oi : Option Nat) (cs : List Str) (m : T → SemS) : HTs := fun a cls d D σ H => ∃ (e : En) (F : Hp) (c : Str) (t : T), c ∈ cs ∧ Rel K e σ F H ∧ BOk B e σ F H ∧ ExR K F H c t cls d ∧
  (∀ i, oi = some i → e[i]? = some .un ∧ σ[i]? = some (some (.ref a))) ∧ OutS K W0 B (m t e) D
def hdR (K : PySem.W.Frag) (B : Bd) (cs : List Str) (p : Str × Option Nat × (T → SemS)) : Value × Option Nat × HTs := (.ref (He.ga K p.1), p.2.1, tXs K B p.2.1 cs p.2.2)
theorem outS_calm {o : Out Fl} {D : Ends} (h : OutS K W B (calmO o) D) : OutS K W0 B o D := by
  cases o with
  | ok f e => cases f <;> exact h
  | exc c t e => exact h.elim
  | bad => exact h.elim
theorem outS_off {i : Nat} {o : Out Fl} {D : Ends} (h : OutS K W B (offO i o) D) : OutS K W0 B o (offD i D) := by
  cases o with
  | bad => exact h.elim
  | exc c t e => exact h.elim
  | ok f e =>
    unfold offO at h
    by_cases l : isLent e i = true
    · simp only [l, if_true] at h; exact h.elim
    · have l' : isLent e i = false := by simpa using l
      simp only [l', Bool.false_eq_true, if_false] at h
      have un : (e.set i Sl.un)[i]? = some Sl.un ∨ (e.set i Sl.un).length ≤ i := by
        by_cases z : i < e.length
        · exact .inl (List.getElem?_set_self z)
        · exact .inr (by simpa using z)
      have go : ∀ {σ : Sg} {F H : Hp}, Rel K e σ F H → BOk B e σ F H → Rel K (e.set i .un) (σ.set i none) F H ∧ BOk B (e.set i .un) (σ.set i none) F H := fun R k => by
        obtain ⟨R2, k2⟩ := set_un R k (isLent_no l')
        exact any_un R2 k2 un
      cases f with
      | nx => exact fun σ' F' H' R k => h _ F' H' (go R k).1 (go R k).2
      | bk => exact fun σ' F' H' R k => h _ F' H' (go R k).1 (go R k).2
      | ct => exact fun σ' F' H' R k => h _ F' H' (go R k).1 (go R k).2
      | rt r => exact fun x σ' F' H' R k o => h x σ' F' H' (set_un R k (isLent_no l')).1 (set_un R k (isLent_no l')).2 o
theorem wEx_of {mg : Str → Option Value} {cs : List Str} {c : Str} {t : T} {D : Ends} {cls : Value} {d : Option Addr} (Ex : ExcOk K mg cs) (hc : c ∈ cs) (R : Rel K e σ F H) (k : BOk B e σ F H) (x : ExR K F H c t cls d) :
    ∀ hs : Hds, (∀ p ∈ hs, p.1 ∈ cs) → OutS K W B (hrun c t e hs) D → wEx K W D (hs.map (hdR K B cs)) cls d σ H
  | [], _, h => h σ F H cls d R k x
  | (n, none, m) :: r, hin, h => by
    have e1 : cls = .ref (He.ga K c) := x.1
    refine ⟨subE c n, by rw [e1]; exact Ex.exm c hc n (hin _ List.mem_cons_self), fun y a na => ?_, fun y => ?_⟩
    · unfold hrun at h; rw [if_pos y] at h
      exact ⟨e, F, c, t, hc, R, k, x, (fun i z => nomatch z), outS_calm h⟩
    · unfold hrun at h; rw [if_neg (by rw [y]; exact Bool.false_ne_true)] at h
      exact wEx_of Ex hc R k x r (fun p hp => hin p (List.mem_cons_of_mem _ hp)) h
  | (n, some i, m) :: r, hin, h => by
    have e1 : cls = .ref (He.ga K c) := x.1
    refine ⟨subE c n, by rw [e1]; exact Ex.exm c hc n (hin _ List.mem_cons_self), fun y a na => ?_, fun y => ?_⟩
    · unfold hrun at h; rw [if_pos y] at h
      by_cases q : (isLent e i || decide (e.length ≤ i)) = true
      · rw [if_pos q] at h; exact h.elim
      · rw [if_neg q] at h
        have q' : isLent e i = false ∧ i < e.length := by
          simp only [Bool.or_eq_true, decide_eq_true_eq, not_or] at q
          exact ⟨by simpa using q.1, by omega⟩
        obtain ⟨R2, k2⟩ := set_un R k (isLent_no q'.1)
        have un : (e.set i Sl.un)[i]? = some Sl.un := List.getElem?_set_self q'.2
        obtain ⟨R3, k3⟩ := any_un (o := some (V.ref a)) R2 k2 (.inl un)
        exact ⟨e.set i .un, F, c, t, hc, R3, k3, x, fun j z => by
          cases z
          exact ⟨un, List.getElem?_set_self (by rw [← R.len]; exact q'.2)⟩, outS_off h⟩
    · unfold hrun at h; rw [if_neg (by rw [y]; exact Bool.false_ne_true)] at h
      exact wEx_of Ex hc R k x r (fun p hp => hin p (List.mem_cons_of_mem _ hp)) h
end
section
variable {X : Cx} {W : WX} {B : Bd} {pos : Pos}
/-- the clauses and their meanings -/
inductive HqOk (X : Cx) (B : Bd) (cs : List Str) : List ExceptHandler → Hds → Prop
  | nil : HqOk X B cs [] []
  | plain {x : Str} {m : T → SemS} {b₀ : Stmt} {suite : List Stmt} {np pos' : Pos} {hds : List ExceptHandler} {l : Hds} (hx : x ∈ cs) (hg : Gl X x) (hsu : SuOk X (b₀ :: suite) (tXs X.K B none cs m)) (r : HqOk X B cs hds l)
      (hdb : (x == ("__debug__" : Str)) = false := by decide) : HqOk X B cs (.ExceptHandler (some (.Name x np)) none (b₀ :: suite) pos' :: hds) ((x, none, m) :: l)
  | named {x n : Str} {i : Nat} {m : T → SemS} {b₀ : Stmt} {suite : List Stmt} {np pos' : Pos} {hds : List ExceptHandler} {l : Hds} (hx : x ∈ cs) (hg : Gl X x) (hi : X.N[i]? = some n) (hln : X.env.kindOf n = some .local)
      (hsu : SuOk X (b₀ :: suite) (tXs X.K B (some i) cs m)) (r : HqOk X B cs hds l) (hdb : (x == ("__debug__" : Str)) = false := by decide) :
      HqOk X B cs (.ExceptHandler (some (.Name x np)) (some n) (b₀ :: suite) pos' :: hds) ((x, some i, m) :: l)
theorem HqOk.hx {cs : List Str} (Ex : ExcOk X.K X.mg cs) {hds : List ExceptHandler} {l : Hds} (h : HqOk X B cs hds l) : HxOk X hds (l.map (hdR X.K B cs)) ∧ ∀ p ∈ l, p.1 ∈ cs := by
  induction h with
  | nil => exact ⟨.nil, fun p hp => by cases hp⟩
  | plain hx hg hsu r hdb ih => exact ⟨.plain ⟨hg, hdb, .inl (Ex.glo _ hx)⟩ hsu ih.1, fun p hp => by
      rcases List.mem_cons.mp hp with rfl | hp
      · exact hx
      · exact ih.2 p hp⟩
  | named hx hg hi hln hsu r hdb ih => exact ⟨.named ⟨hg, hdb, .inl (Ex.glo _ hx)⟩ hi hln hsu ih.1, fun p hp => by
      rcases List.mem_cons.mp hp with rfl | hp
      · exact hx
      · exact ih.2 p hp⟩
theorem qtry {body : List Stmt} {h₀ : ExceptHandler} {hds : List ExceptHandler} {mb : SemS} {l : Hds} {cs : List Str} (hs : X.stack = X.env :: X.outer) (hf : X.env.frame = some X.env.locals) (hN : X.N.Nodup) (tk : L2N.Takes X W) (Ex : ExcOk X.K X.mg cs)
    (hb : ∀ (W' : WX) (pn : List (Addr × Obj)) (xe : Value → Shared → Prop), L2N.Takes (X.tr pn xe) W' → PassesOwn (model X.prog X.w) X.A X.env xe → QSs (X.tr pn xe) W' B body mb)
    (hh : HqOk X B cs (h₀ :: hds) l) : QS X W B (.Try body (h₀ :: hds) [] [] pos) (sTry cs mb l) := by
  obtain ⟨hx, hin⟩ := hh.hx Ex
  refine ps_mono (ps_try_ex hs hf hN tk (tb := fun W' => tS X.K W' B mb) (fun W' pn xe t p => hb W' pn xe t p) hx) fun D σ H h => ?_
  obtain ⟨e, F, R, k, h⟩ := h
  refine ⟨e, F, R, k, ?_⟩
  unfold sTry at h
  cases q : mb e with
  | bad => rw [q] at h; exact h.elim
  | ok f e' => rw [q] at h; cases f <;> exact h
  | exc c t e' =>
    rw [q] at h
    by_cases z : cs.contains c = true
    · have hc : c ∈ cs := by simpa using z
      have h : OutS X.K W B (hrun c t e' l) D := by
        have h2 : OutS X.K W B (if cs.contains c = true then hrun c t e' l else .bad) D := h
        rwa [if_pos z] at h2
      exact fun σ' F' H' cls d R' k' x => wEx_of Ex hc R' k' x l hin h
    · have h2 : OutS X.K W B (if cs.contains c = true then hrun c t e' l else .bad) D := h
      rw [if_neg z] at h2
      exact h2.elim
/-! ### suites -/
/-- a suite that doesn't look at the exception -/
theorem su_plain {suite : List Stmt} {oi : Option Nat} {cs : List Str} {m : SemS} (h : ∀ (a : Addr) (pn : List (Addr × Obj)), QSs (X.suite a pn) W0 B suite m) : SuOk X suite (tXs X.K B oi cs fun _ => m) :=
  fun a oe cls d pn hz hf => pss_mono (h a ((a, oe) :: pn)) fun D σ H ⟨e, F, c, t, hc, R, k, x, hi, o⟩ => ⟨e, F, R, k, o⟩
theorem su_class {suite : List Stmt} {oi : Option Nat} {cs : List Str} {m : T → SemS} (h : ∀ (c : Str), c ∈ cs → ∀ (a : Addr) (oe : Obj) (d : Option Addr) (pn : List (Addr × Obj)), L2N.Zn (.ref (He.ga X.K c)) d oe → (∃ vs, oe.data = .fields vs) →
    PSs (X.suite a ((a, oe) :: pn)) suite (tXs X.K B oi cs m a (.ref (He.ga X.K c)) d)) : SuOk X suite (tXs X.K B oi cs m) := fun a oe cls d pn hz hf => by
  by_cases q : ∃ c ∈ cs, cls = .ref (He.ga X.K c)
  · obtain ⟨c, hc, rfl⟩ := q
    exact h c hc a oe d pn hz hf
  · exact pss_mono pss_never fun D σ H ⟨e, F, c, t, hc, R, k, x, hi, o⟩ => absurd ⟨c, hc, x.1⟩ q
/-- i, j = z, the exception's value -/
def sPut2 (i j : Nat) (z t : T) : SemS := fun e => if isLent e i || isLent e j then .bad else .ok .nx ((e.set i (.v z)).set j (.v t))
theorem su_par {i j k : Nat} {x y n : Str} {z : Str} {jz : Nat} {cs : List Str} {px py pt p2 p3 p4 p5 : Pos} {kt k2 : Nat} (Ex : ExcOk X.K X.mg cs) (hN : X.N.Nodup) (hi : X.N[i]? = some x) (hj : X.N[j]? = some y) (hk : X.N[k]? = some n) (hij : i ≠ j)
    (hx : X.env.scope.names.lookup x = some .local) (hy : X.env.scope.names.lookup y = some .local) (hn : X.env.scope.names.lookup n = some .local)
    (hw : swappedStores [.Tuple [.Name x px, .Name y py] kt pt] (.Tuple [.Constant (.str z) jz p2, .Attribute (.Name n p3) "value" p4] k2 p5) X.env = pure (some [x, y]))
    (hb : attributeBase (.Name n p3) "value" X.env (eval (.Name n p3) X.env) = eval (.Name n p3) X.env := by rfl)
    (hs : swapsWithSole [.Tuple [.Name x px, .Name y py] kt pt] (.Tuple [.Constant (.str z) jz p2, .Attribute (.Name n p3) "value" p4] k2 p5) pos.line X.env = pure false := by rfl) 
    (hd : (n == ("__debug__" : Str)) = false := by decide) (hcd : (n == ("__classdict__" : Str)) = false := by decide) :
    SuOk X [.Assign [.Tuple [.Name x px, .Name y py] kt pt] (.Tuple [.Constant (.str z) jz p2, .Attribute (.Name n p3) "value" p4] k2 p5) pos] (tXs X.K B (some k) cs (sPut2 i j (.str z))) := by
  refine su_class fun c hc a oe d pn hz hf => ?_
  have hot : L2H.HotC (X.suite a ((a, oe) :: pn)) := by
    obtain ⟨vs, hv⟩ := hf
    exact ⟨(a, oe), ⟨rfl, vs, hv, hz.2.2 vs hv⟩, List.mem_cons_self⟩
  have pv : PE (X.suite a ((a, oe) :: pn)) (.Name n p3) (tVar k) := pe_var hk (.inl hn) hd hcd
  have pat := pe_xf (pos := p4) (Ex.xf c hc) (Ex.nov c hc) hz.zc hf pv hb
  refine pss_mono (pss_cons (ps_par_hot (X := X.suite a ((a, oe) :: pn)) hot hN hi hj hij hx hy (pa_cons pe_str (pa_cons pat pa_nil)) hw hs) pss_nil) fun D σ H h => ?_
  obtain ⟨e, F, c', t, hc', R, kk, ex, hu, o⟩ := h
  obtain ⟨un, hσ⟩ := hu k rfl
  obtain ⟨ec, dx, v, ed, hdx, dv⟩ := ex
  refine ⟨.ref a, hσ, rfl, rfl, dx, [("value", v)], v, ed, hdx, by simp, ?_⟩
  refine ⟨_, _, rfl, ?_⟩
  unfold sPut2 at o
  by_cases q : (isLent e i || isLent e j) = true
  · rw [if_pos q] at o; exact o.elim
  · rw [if_neg q] at o
    have q' : isLent e i = false ∧ isLent e j = false := by simpa using q
    obtain ⟨R1, k1⟩ := set_v R kk (Dp.str z) (isLent_no q'.1)
    have l2 : isLent (e.set i (.v (.str z))) j = false := by
      unfold isLent at *
      rw [List.getElem?_set_ne hij]; exact q'.2
    obtain ⟨R2, k2⟩ := set_v R1 k1 dv (isLent_no l2)
    exact o _ _ _ R2 k2
end
end Ev

set_option Elab.async false
set_option linter.all false
set_option maxRecDepth 100000
namespace Ev
open PySem PySem.Spec PyProof.Rows L2
/-! ### a sign of a text by its place -/
def gIxS : T → T → Option Od
  | .str z, .int i => if z.length ≤ sizeLine then (atI z.cps.toList i).map fun c => .r (.str ⟨#[c]⟩) else none
  | _, _ => none
theorem does_ixS {K : PySem.W.Frag} : Does2 K rIxS gIxS := by
  intro x y t u w F H Q ff dx dy h
  cases t with
  | str z =>
    cases u with
    | int i =>
      simp only [gIxS] at h
      split at h
      · rename_i hz
        cases q : atI z.cps.toList i with
        | none => rw [q] at h; cases h
        | some c =>
          rw [q] at h
          cases h
          have dx : Dp K F x (.str z) := dx
          have dy : Dp K F y (.int i) := dy
          cases dx
          cases dy
          exact ⟨trivial, fun g => ⟨z, i, c, rfl, rfl, hz, q, g.1 _ (.str _)⟩⟩
      · cases h
    | _ => cases h
  | _ => cases h
/-! ### one sign that is not in a text -/
def gNiS : T → T → Option Od
  | .str c, .str z => (match c.cps.toList with
    | [k] => some (.r (.bool (!decide (k ∈ z.cps.toList))))
    | _ => none)
  | _, _ => none
theorem does_niS {K : PySem.W.Frag} : Does2 K rNotInS gNiS := by
  intro x y t u w F H Q ff dx dy h
  cases t with
  | str c =>
    cases u with
    | str z =>
      simp only [gNiS] at h
      split at h
      · rename_i k q
        cases h
        have dx : Dp K F x (.str c) := dx
        have dy : Dp K F y (.str z) := dy
        cases dx
        cases dy
        have ec : c = ⟨#[k]⟩ := Str.ext' (Array.toList_inj.mp q)
        exact ⟨trivial, fun g => ⟨k, z, by rw [ec], rfl, g.1 _ (.bl _)⟩⟩
      · cases h
    | _ => cases h
  | _ => cases h
/-! ### the signs of a text, one by one -/
def signsT (z : Str) : List T := z.cps.toList.map fun c => .str ⟨#[c]⟩
def iTx (m : SemE) : SemI := fun e => (m e).bind fun r e1 => match r with
  | .r (.str z) => .ok (signsT z) e1
  | _ => .bad
theorem wk_str {K : PySem.W.Frag} {F : Hp} {z : Str} : Wk K F (Its z) (signsT z) := by
  intro i F' H ff fh
  refine ⟨fun t ht => ?_, fun hi => (show z.cps.size ≤ i by simpa [signsT] using hi)⟩
  have hi : i < z.cps.size := by have := (List.getElem?_eq_some_iff.mp ht).1; simpa [signsT] using this
  refine ⟨hi, fun x H' ⟨eH, c, ec, ex⟩ => .inl ⟨eH, ?_⟩⟩
  subst ex
  simp [signsT, ec] at ht
  subst ht
  exact .str _
section
variable {X : Cx} {W : WX} {B : Bd} {a b c : Expr} {ma mb mc : SemE} {pos : Pos}
theorem qixS (ha : QE X W a ma) (hb : QE X W b mb) (hs : ∀ o i, subscripted b false o i = operate [o, i] (getItem o i) := by intros; rfl) : QE X W (.Subscript a b pos) (eOp2 gIxS ma mb) :=
  pe_mono (pe_ix ix_str ha hb hs) fun σ H Q h => tX_imp (two h) fun x H1 h1 => tX_imp h1 fun y H2 h2 => does2 does_ixS h2
theorem qitx {tg : Expr} (ha : QE X W a ma) : QI X W tg a (iTx ma) := by
  refine pi_mono (pi_str ha) fun σ H Q h => ?_
  obtain ⟨e, F, R, h⟩ := h
  refine tX_imp (tX_bind (rel := fun σ => OdR X.K σ) R .refl h) fun x H1 ⟨r, e1, F1, R1, S1, O, h2⟩ => ?_
  split at h2
  · rename_i z
    cases (show Dp X.K F1 x (.str z) from O)
    exact ⟨z, rfl, h2 _ F1 H1 R1 S1 wk_str⟩
  · exact (h2 : False).elim
end
/-! ### a text some times -/
def repS (z : Str) (n : Int) : Str := ⟨(List.replicate n.toNat z.cps).foldl (· ++ ·) #[]⟩
def gRepS : T → T → Option Od
  | .str z, .int n => if 2 ≤ n ∧ n ≤ 100000 ∧ 1 ≤ z.length ∧ z.length ≤ 100 then some (.r (.str (repS z n))) else none
  | _, _ => none
def rRepS : R2 := fun x y H Q => ∃ z n, x = .str z ∧ y = .int n ∧ 2 ≤ n ∧ n ≤ 100000 ∧ 1 ≤ z.length ∧ z.length ≤ 100 ∧ Q (.str (repS z n)) H
theorem foldl_size : ∀ (n : Nat) (a b : Array Nat), ((List.replicate n a).foldl (· ++ ·) b).size = b.size + n * a.size
  | 0, a, b => by simp
  | n + 1, a, b => by
    rw [List.replicate_succ, List.foldl_cons, foldl_size n a (b ++ a), Array.size_append, Nat.add_mul, Nat.one_mul]; omega
theorem repS_len (z : Str) (n : Int) : (repS z n).length = n.toNat * z.length := by
  show ((List.replicate n.toNat z.cps).foldl (· ++ ·) #[]).size = _
  rw [foldl_size]; simp; rfl
theorem op_repS {X : Cx} : OpR X (binaryOp .Mult) rRepS := by
  intro pins s σ H x y v u Q I rx ry ⟨z, n, ex, ey, h1, h2, h3, h4, q⟩
  subst ex ey
  obtain ⟨t, rfl⟩ := rx
  obtain ⟨t', rfl⟩ := ry
  have hm : n.toNat * z.length ≤ 100000 * 100 := Nat.mul_le_mul (by omega) h4
  refine PySem.P.mul_str ?_ (fun _ _ => ?_) (fun _ _ => ?_) ?_
  · have a : ¬ n < -(2 ^ 63 : Int) := by omega
    have b : ¬ n ≥ 2 ^ 63 := by omega
    rw [decide_eq_false a, decide_eq_false b]; rfl
  · have : (1000 : Int) ≤ (2 ^ 63 - 1 : Int) / n := Int.le_ediv_of_mul_le (by omega) (by omega)
    omega
  · unfold Builtin.Str.tooLong
    rw [sizeLine_eq]
    exact decide_eq_false (by rw [Nat.mul_comm]; omega)
  · have a : ¬ n < 1 := by omega
    have b : (n == 1 || z.length == 0) = false := by
      have x1 : (n == 1) = false := by simp; omega
      have x2 : (z.length == 0) = false := by simp; omega
      rw [x1, x2]; rfl
    rw [if_neg a, b, if_neg Bool.false_ne_true]
    refine ⟨?_, ⟨.str (repS z n), H, I.tok _, ⟨_, rfl⟩, q⟩⟩
    show (repS z n).length ≤ sizeLine
    rw [repS_len, sizeLine_eq]; omega
theorem does_repS {K : PySem.W.Frag} : Does2 K rRepS gRepS := by
  intro x y t u w F H Q ff dx dy h
  cases t with
  | str z =>
    cases u with
    | int i =>
      simp only [gRepS] at h
      split at h
      · rename_i hz
        cases h
        have dx : Dp K F x (.str z) := dx
        have dy : Dp K F y (.int i) := dy
        cases dx
        cases dy
        exact ⟨trivial, fun g => ⟨z, i, rfl, rfl, hz.1, hz.2.1, hz.2.2.1, hz.2.2.2, g.1 _ (.str _)⟩⟩
      · cases h
    | _ => cases h
  | _ => cases h
end Ev

set_option Elab.async false
set_option linter.all false
set_option maxRecDepth 100000
set_option maxHeartbeats 2000000
namespace Ev
open PySem PySem.Spec PyProof.Rows L2
/-! ### a test behind which a token is out -/
def PTk (X : Cx) (e : Expr) (t : TT) : Prop := ∀ (pins : List (Addr × Obj)) (s : Shared) (σ : L2.St) (H : Hp) (Q : Bool → Hp → Prop), Inv X pins σ H s → t σ H Q →
  wpAny (model X.prog X.w) X.A (isTrue e X.env (eval e X.env)) (fun b s' => 1 ≤ s'.toks ∧ TP X pins σ Q b s') X.xe s
section
variable {X : Cx} {W : WX} {B : Bd} {a b c o : Expr} {ma mb mc mo mi : SemE} {pos : Pos} {t1 t2 : SemT}
theorem qtk_and {f : CmpOp} {r : R2} {g : T → T → Option Od} {n : Int} {j : Nat} {p p1 : Pos} (ho : OpR X (compareOp f) r) (hr : Does2 X.K r g) (ha : QE X W a ma) (hb : QT X W b t2) (hm : behindInMarks f (.Constant (.int n) j p) = false := by first | rfl | exact nomark _) :
    PTk X (.BoolOp .And [.Compare a [f] [.Constant (.int n) j p] p1, b] pos) (tT X.K W (tAnd (tb (eOp2 g ma (eK (.int n)))) t2)) := by
  intro pins s σ H Q I h
  obtain ⟨e, F, R, h⟩ := h
  have h3 := tX_bind (rel := fun _ _ _ _ (x : Bool) r => x = r) (m := tb (eOp2 g ma (eK (.int n)))) R .refl h
  refine isTrue_and (wpAny_isTrue_Compare1 (thn (ha.run pins s σ H _ I (two (tb_read h3))) fun v s1 ⟨x, H1, I1, r1, q1⟩ => wpAny_Constant_int ?_) hm)
  obtain ⟨e', F', R', q1⟩ := q1
  have q3 := does2 hr (q1 (.int n) F' H1 R' .refl (.int n))
  refine wpAny_mono (PySem.wpAny_toks_of (n := 1) (by show 1 ≤ s1.toks + 1; omega) (ho pins _ σ H1 x (.int n) v _ _ (I1.tok _) r1 ⟨_, rfl⟩ q3)) (fun c s3 ⟨hk, z, H3, I3, r3, k, ez, k', e2, F2, R2, S2, ek, q4⟩ => ?_) (fun _ _ z => z.2)
  subst ez
  subst ek
  cases r3
  refine wpAny_truthy_bool ?_
  cases k with
  | false => exact ⟨hk, H3, I3, q4 _ F2 H3 R2 S2 rfl⟩
  | true =>
    refine wpAny_mono (PySem.wpAny_toks_of hk ((pw_and1 hb).run _ pins s3 σ H3 Q I3 (outT_trans R2 S2 q4))) (fun d s4 z => z) (fun _ _ z => z.2)
theorem qif_tok {mt : SemT} {m1 m2 : SemS} {s1 s2 : List Stmt} (hc : PTk X c (tT X.K W mt)) (h1 : PSsT X s1 (tS X.K W B m1)) (h2 : QSs X W B s2 m2) : QS X W B (.If c s1 s2 pos) (sIf mt m1 m2) := by
  refine ⟨fun pins s σ H D I h => ?_⟩
  obtain ⟨e, F, R, k, h⟩ := h
  refine wpAny_If (thn (hc pins s σ H _ I (tS_bind (rel := fun _ _ _ _ (x : Bool) r => x = r) R k h)) fun d s1 ⟨hk, H1, I1, r, e1, F1, R1, S1, k1, ed, q⟩ => ?_)
  subst ed
  cases d with
  | true => exact h1 pins s1 σ H1 D hk I1 ⟨e1, F1, R1, k1, q⟩
  | false => exact h2.run pins s1 σ H1 D I1 ⟨e1, F1, R1, k1, q⟩
theorem qset_tok {i : Nat} {x : Str} {pos' : Pos} (hN : X.N.Nodup) (hi : X.N[i]? = some x) (hx : Loc X.env.scope x) (he : PET X a (tE X.K W ma)) (hs : swapsWith a (some (.Name x pos')) pos.line X.env = pure false := by rfl)
    (hf : X.fn x = true ∨ X.env.scope.names.lookup x = some .local := by first | exact .inl rfl | exact .inr rfl | assumption) : PSsT X [.Assign [.Name x pos'] a pos] (tS X.K W B (sSet i ma)) := by
  refine CwR.psst_one (t := tS X.K W B (sSet i ma)) fun pins s σ H D h0 I h => ?_
  refine wpAny_Assign_Name (thn (he pins s σ H _ h0 I (asg_read h)) fun v s1 ⟨y, H1, I1, r1, q1⟩ => ?_) hs
  exact store_ok I1 hN hi hx r1 (fun s2 I2 => ⟨_, H1, I2, q1⟩) hf
/-! ### text.replace(y, [z1, z2, z3][i]) -/
def eRepl (mo : SemE) (y : Str) (zs : List Str) (mi : SemE) : SemE := fun e => (mo e).bind fun r e1 => match r with
  | .r (.str x) => (mi e1).bind fun ri e2 => (match ri with
    | .r (.int i) => if 0 ≤ i ∧ x.length ≤ 1000000 then (match zs[i.toNat]? with
      | some z => if (y == z) = false ∧ z.length ≤ 10 then .ok (.r (.str (Txt.replace x y z))) e2 else .bad
      | none => .bad) else .bad
    | _ => .bad)
  | _ => .bad
theorem qrepl {y z1 z2 z3 : Str} {j j1 j2 j3 : Nat} {c0 c1 c2 c3 p1 p2 apos : Pos} (ho : QE X W o mo) (hi : QE X W b mi)
    (hst : starEach [.Constant (.str y) j c0, .Subscript (.List [.Constant (.str z1) j1 c1, .Constant (.str z2) j2 c2, .Constant (.str z3) j3 c3] p1) b p2] X.env =
      [(false, eval (.Constant (.str y) j c0) X.env), (false, eval (.Subscript (.List [.Constant (.str z1) j1 c1, .Constant (.str z2) j2 c2, .Constant (.str z3) j3 c3] p1) b p2) X.env)] := by rfl)
    (hst2 : starEach [.Constant (.str z1) j1 c1, .Constant (.str z2) j2 c2, .Constant (.str z3) j3 c3] X.env = [(false, eval (.Constant (.str z1) j1 c1) X.env), (false, eval (.Constant (.str z2) j2 c2) X.env), (false, eval (.Constant (.str z3) j3 c3) X.env)] := by rfl)
    (hbase : attributeBase o "replace" X.env (eval o X.env) = eval o X.env := by rfl) (hline : (apos.endLine == pos.line) = true := by rfl)
    (hs : ∀ o i, subscripted b false o i = operate [o, i] (getItem o i) := by intros; rfl) :
    PET X (.Call (.Attribute o "replace" apos) [.Constant (.str y) j c0, .Subscript (.List [.Constant (.str z1) j1 c1, .Constant (.str z2) j2 c2, .Constant (.str z3) j3 c3] p1) b p2] [] pos) (tE X.K W (eRepl mo y [z1, z2, z3] mi)) := by
  intro pins s σ H Q h0 I h
  obtain ⟨e, F, R, h⟩ := h
  refine PySem.Call_method2 hbase hst hline (wpAny_mono (PySem.wpAny_toks_of h0 (ho.run pins s σ H _ I (tX_bind (rel := fun σ => OdR X.K σ) R .refl h))) (fun v s1 ⟨hk, x, H1, I1, r1, r, e1, F1, R1, S1, O1, h1⟩ => ?_) fun _ _ z => z.2)
  split at h1
  · rename_i x0
    cases (show Dp X.K F1 x (.str x0) from O1)
    obtain ⟨tx, rfl⟩ := r1
    refine ⟨"str", _, PySem.F.plainAttrs_str, PySem.F.slot_str_replace, PySem.F.type_str_replace, typeIs_str _ _ _, (fun _ e => nomatch e), Calls.callWith_builtin rfl (Calls.evalArgs_plain (Calls.spliced_cons ?_))⟩
    refine Calls.Constant_str (Calls.spliced_cons (Subscript_ (List_ ?_)))
    rw [hst2]
    refine Calls.spliced_cons (Calls.Constant_str (k := j1) (pos := c1) (Calls.spliced_cons (Calls.Constant_str (k := j2) (pos := c2) (Calls.spliced_cons (Calls.Constant_str (k := j3) (pos := c3) (Calls.spliced_nil ?_))))))
    refine wpAny_newObj_type ?_ (by show 3 ≤ sizeLine; decide)
    have I2 : Inv X pins σ H1 { s1 with heap := s1.heap.push { cls := .type "list", data := .seq [Value.str z1 (s1.toks + 1), .str z2 (s1.toks + 1 + 1), .str z3 (s1.toks + 1 + 1 + 1)].toArray }, toks := s1.toks + 1 + 1 + 1 + 1 } := I1.kept fun b o e => Heap.get?_push_of_some _ e
    have at2 := Heap.get?_push_size s1.heap (o := { cls := .type "list", data := .seq [Value.str z1 (s1.toks + 1), .str z2 (s1.toks + 1 + 1), .str z3 (s1.toks + 1 + 1 + 1)].toArray }) rfl
    have I3 := I2.pinned (fp := [s1.heap.objs.size]) (fun b hb => by
      have eb : b = s1.heap.objs.size := by simpa using hb
      subst eb
      exact I1.fpOk (Nat.le_refl _) (I1.hok.fresh (Nat.le_refl _))) (fun b hb => by
      have eb : b = s1.heap.objs.size := by simpa using hb
      subst eb
      exact ⟨_, at2, fun v => nofun⟩)
    refine thn (hi.run _ _ σ H1 _ I3 (tX_bind (rel := fun σ => OdR X.K σ) R1 S1 h1)) fun iv s3 ⟨y', H3, I4, r4, ri, e2, F2, R2, S2, O2, h2⟩ => ?_
    split at h2
    · rename_i i
      cases (show Dp X.K F2 y' (.int i) from O2)
      obtain ⟨ti, rfl⟩ := r4
      split at h2
      · rename_i hi0
        split at h2
        · rename_i z qz
          split at h2
          · rename_i hz
            have pl := (I4.pin (s1.heap.objs.size, _) (List.mem_append_right _ (List.mem_append_right _ (mem_pinsAt (by simp) at2)))).1
            have hl : s3.heap.IsList s1.heap.objs.size [Value.str z1 (s1.toks + 1), .str z2 (s1.toks + 1 + 1), .str z3 (s1.toks + 1 + 1 + 1)].toArray := ⟨_, pl, rfl, _, rfl⟩
            have it : ∃ t : Tok, s1.toks < t ∧ [Value.str z1 (s1.toks + 1), .str z2 (s1.toks + 1 + 1), .str z3 (s1.toks + 1 + 1 + 1)].toArray[i.toNat]? = some (.str z t) ∧ i < 3 := by
              have hi1 : i.toNat < 3 := (List.getElem?_eq_some_iff.mp qz).1
              have hlt : i < 3 := by omega
              match hn : i.toNat, qz with
              | 0, qz => cases qz; exact ⟨s1.toks + 1, by omega, rfl, hlt⟩
              | 1, qz => cases qz; exact ⟨s1.toks + 1 + 1, by omega, rfl, hlt⟩
              | 2, qz => cases qz; exact ⟨s1.toks + 1 + 1 + 1, by omega, rfl, hlt⟩
              | n + 3, _ => omega
            obtain ⟨t, lt, et, i3⟩ := it
            refine item_listR hl hi0.1 (by omega) et ?_ (hs _ _)
            refine Calls.spliced_nil ?_
            have J : Inv X pins σ H3 s3 := I4.unpinned
            have hb : x0.length + (x0.length + 1) * z.length ≤ 16777216 := by
              have : (x0.length + 1) * z.length ≤ 1000001 * 10 := Nat.mul_le_mul (by omega) hz.2
              omega
            exact PySem.SC.replace (by show s1.toks ≠ 0; omega) (Nat.ne_of_gt (Nat.lt_of_le_of_lt (Nat.zero_le _) lt)) (Nat.ne_of_lt lt) hz.1 hb fun t' k => ⟨.str (Txt.replace x0 y z), H3, J.tok k, ⟨t', rfl⟩, h2 _ F2 H3 R2 (S1.trans S2) (.str _)⟩
          · exact h2.elim
        · exact h2.elim
      · exact h2.elim
    · exact h2.elim
  · exact (h1 : False).elim
end
end Ev

set_option Elab.async false
set_option linter.all false
set_option maxRecDepth 100000
namespace Ev
open PySem PySem.Spec PyProof.Rows L2
/-! ### text.partition(text) -/
end Ev

set_option Elab.async false
set_option linter.all false
set_option maxRecDepth 100000
namespace Ev
open PySem PySem.Spec PyProof.Rows L2
/-! ### a < b < c -/
section
variable {X : Cx} {W : WX} {a b c : Expr} {ma mb mc : SemE} {pos : Pos}
end
/-! ### min, max of a tuple -/
/-! ### repr of a tree, where no repr is under way -/
end Ev

set_option Elab.async false
set_option linter.all false
set_option maxRecDepth 100000
namespace Ev
open PySem PySem.Spec PyProof.Rows L2
/-! ### repr in QE -/
/-! ### a def that is called where no repr is under way -/
/-! ### the law is called where no repr is under way -/
section
variable {P : Program} {w : World} {K : PySem.W.Frag} {mg mb : Str → Option Value} {CX : CXT} {k : Nat} {fa a : Addr} {fd : FuncData} {x : Str} {sp : Sp} {z : Shared} {vs : List Value} {ns : List Int}
end
end Ev

set_option Elab.async false
set_option linter.all false
namespace Lw
open PySem PySem.Spec L2 Ev
noncomputable def b_is_whole : SemS := (sRet (eAnd (eIsi isInt (eVar 0)) (eNot (eIsi isBool (eVar 0)))))
noncomputable def m_is_whole : FSem := runFn 1 b_is_whole
noncomputable def b_is_count : SemS := (sRet (eAnd (eCall 1 m_is_whole (aCons (eVar 0) aNil)) (eOp2 gGe (eVar 0) (eK (.int 0)))))
noncomputable def m_is_count : FSem := runFn 1 b_is_count
noncomputable def b_is_index : SemS := (sRet (eAnd (eCall 1 m_is_count (aCons (eVar 0) aNil)) (eOp2 gLt (eVar 0) (eVar 1))))
noncomputable def m_is_index : FSem := runFn 2 b_is_index
noncomputable def b_is_posture : SemS := (sSeq (sIf (tOr (tNot (tb (eIsi isTuple (eVar 0)))) (tb (eOp2 (gEq not) (eFn gLen (aCons (eVar 0) aNil)) (eK (.int 2))))) (sRet (eK (.bool false))) sNil) (sSeq (sAsg (gT 2 (gsCons (gN 1) (gsCons (gN 2) gsNil))) (eVar 0)) (sRet (eAnd (eCall 2 m_is_index (aCons (eVar 1) (aCons (eK (.int 4)) aNil))) (eCall 2 m_is_index (aCons (eVar 2) (aCons (eK (.int 2)) aNil)))))))
noncomputable def m_is_posture : FSem := runFn 3 b_is_posture
noncomputable def b_is_turn : SemS := (sSeq (sIf (tOr (tNot (tb (eIsi isTuple (eVar 0)))) (tb (eOp2 (gEq not) (eFn gLen (aCons (eVar 0) aNil)) (eK (.int 3))))) (sRet (eK (.bool false))) sNil) (sRet (eAnd (eCall 1 m_is_posture (aCons (eSl (eVar 0) pNo (pSo (eK (.int 2)))) aNil)) (eCall 2 m_is_index (aCons (eOp2 gIx (eVar 0) (eK (.int 2))) (aCons (eK (.int 2)) aNil))))))
noncomputable def m_is_turn : FSem := runFn 1 b_is_turn
noncomputable def x1_is_box : SemE := (eComp (iOf (eVar 0)) (gN 5) tTrue (eCall 1 m_is_count (aCons (eVar 5) aNil)) [5])
noncomputable def b_is_box : SemS := (sSeq (sIf (tOr (tNot (tb (eIsi isTuple (eVar 0)))) (tb (eOp2 (gEq not) (eFn gLen (aCons (eVar 0) aNil)) (eK (.int 4))))) (sRet (eK (.bool false))) sNil) (sSeq (sIf (tNot (tb (eFn gAll (aCons x1_is_box aNil)))) (sRet (eK (.bool false))) sNil) (sSeq (sAsg (gT 4 (gsCons (gN 1) (gsCons (gN 2) (gsCons (gN 3) (gsCons (gN 4) gsNil))))) (eVar 0)) (sRet (eAnd (eOp2 gLt (eVar 1) (eVar 3)) (eOp2 gLt (eVar 2) (eVar 4)))))))
noncomputable def m_is_box : FSem := runFn 6 b_is_box
noncomputable def b_told_integer : SemS := (sSeq (sIf (tOr (tNot (tb (eSM0 fAscii (eVar 0)))) (tOr (tNot (tb (eSM0 fDigit (eVar 0)))) (tb (eOp2 gGt (eFn gLenS (aCons (eVar 0) aNil)) (eK (.int 40)))))) (sRet (eK .none)) sNil) (sSeq (sIf (tAnd (tb (eSM1 fStarts (eVar 0) (eK (.str "0")))) (tb (eOp2 (gEq not) (eVar 0) (eK (.str "0"))))) (sRet (eK .none)) sNil) (sRet (eFn gIntT (aCons (eVar 0) aNil)))))
noncomputable def m_told_integer : FSem := runFn 1 b_told_integer
noncomputable def x1__told_integers : SemE := (eComp (iOf (eVar 0)) (gN 3) tTrue (eCall 1 m_told_integer (aCons (eVar 3) aNil)) [3])
noncomputable def b__told_integers : SemS := (sSeq (sSet 2 x1__told_integers) (sSeq (sIf (tOr (tb (eOp2 (gEq not) (eFn gLen (aCons (eVar 2) aNil)) (eVar 1))) (tb (eOp2 (gIn id) (eK .none) (eVar 2)))) (sRet (eK .none)) sNil) (sRet (eFn gTuple (aCons (eVar 2) aNil)))))
noncomputable def m__told_integers : FSem := runFn 4 b__told_integers
noncomputable def x1__told_rows : SemE := (eComp (iOf (eSM1 fSplit (eVar 0) (eK (.str ", ")))) (gN 2) tTrue (eCall 2 m__told_integers (aCons (eSM1 fSplit (eVar 2) (eK (.str " "))) (aCons (eK (.int 3)) aNil))) [2])
noncomputable def b__told_rows : SemS := (sSeq (sSet 1 x1__told_rows) (sSeq (sIf (tb (eOp2 (gIn id) (eK .none) (eVar 1))) (sRet (eK .none)) sNil) (sRet (eFn gTuple (aCons (eVar 1) aNil)))))
noncomputable def m__told_rows : FSem := runFn 3 b__told_rows
noncomputable def b__alone : SemS := (sSeq (sIf (tb (eOp2 (gIsN id) (eVar 1) (eK .none))) (sRaise "Unreadable" (eK (.int 1))) sNil) (sSeq (sIf (tb (eOp2 gInS (eK (.str "\n")) (eVar 0))) (sRaise "Unreadable" (eK (.int 2))) sNil) (sRet (eVar 1))))
noncomputable def m__alone : FSem := runFn 2 b__alone
noncomputable def b__first_line : SemS := (sRet (eOp2 gIx (eSM1 fSplit (eVar 0) (eK (.str "\n"))) (eK (.int 0))))
noncomputable def m__first_line : FSem := runFn 1 b__first_line
noncomputable def b_read_cell : SemS := (sRet (eCall 2 m__alone (aCons (eVar 0) (aCons (eCall 2 m__told_integers (aCons (eSM1 fSplit (eCall 1 m__first_line (aCons (eVar 0) aNil)) (eK (.str " "))) (aCons (eK (.int 2)) aNil))) aNil))))
noncomputable def m_read_cell : FSem := runFn 1 b_read_cell
noncomputable def b__told_box : SemS := (sSeq (sSet 1 (eCall 2 m__told_integers (aCons (eSM1 fSplit (eVar 0) (eK (.str " "))) (aCons (eK (.int 4)) aNil)))) (sSeq (sIf (tNot (tb (eCall 1 m_is_box (aCons (eVar 1) aNil)))) (sRet (eK .none)) sNil) (sRet (eVar 1))))
noncomputable def m__told_box : FSem := runFn 2 b__told_box
noncomputable def b_read_box : SemS := (sRet (eCall 2 m__alone (aCons (eVar 0) (aCons (eCall 1 m__told_box (aCons (eCall 1 m__first_line (aCons (eVar 0) aNil)) aNil)) aNil))))
noncomputable def m_read_box : FSem := runFn 1 b_read_box
noncomputable def x1__told_spans : SemE := (eComp (iOf (eSM1 fSplit (eVar 0) (eK (.str " ")))) (gN 4) tTrue (eCall 2 m__told_integers (aCons (eSM1 fSplit (eVar 4) (eK (.str "-"))) (aCons (eK (.int 2)) aNil))) [4])
noncomputable def y1__told_spans : SemS := (sDrop (eMut 2 gExtT (aCons (eVar 3) aNil)))
noncomputable def l1__told_spans : SemS := (sFor (iOf (eVar 1)) (gN 3) y1__told_spans)
noncomputable def x2__told_spans : SemE := (eComp (iR1 (aCons (eOp2 gSub (eFn gLen (aCons (eVar 2) aNil)) (eK (.int 1))) aNil)) (gN 5) tTrue (eOp2 gLt (eOp2 gIx (eVar 2) (eVar 5)) (eOp2 gIx (eVar 2) (eOp2 gAdd (eVar 5) (eK (.int 1))))) [5])
noncomputable def b__told_spans : SemS := (sSeq (sSet 1 x1__told_spans) (sSeq (sIf (tb (eOp2 (gIn id) (eK .none) (eVar 1))) (sRet (eK .none)) sNil) (sSeq (sSet 2 (eLst aNil)) (sSeq l1__told_spans (sSeq (sIf (tNot (tb (eFn gAll (aCons x2__told_spans aNil)))) (sRet (eK .none)) sNil) (sRet (eFn gTuple (aCons (eVar 1) aNil))))))))
noncomputable def m__told_spans : FSem := runFn 6 b__told_spans
noncomputable def b_read_spans : SemS := (sRet (eCall 2 m__alone (aCons (eVar 0) (aCons (eCall 1 m__told_spans (aCons (eCall 1 m__first_line (aCons (eVar 0) aNil)) aNil)) aNil))))
noncomputable def m_read_spans : FSem := runFn 1 b_read_spans
noncomputable def x1__told_make : SemE := (eComp (iOf (eVar 1)) (gN 2) tTrue (eCall 1 m_is_turn (aCons (eVar 2) aNil)) [2])
noncomputable def b__told_make : SemS := (sSeq (sSet 1 (eCall 1 m__told_rows (aCons (eVar 0) aNil))) (sSeq (sIf (tOr (tb (eOp2 (gIsN id) (eVar 1) (eK .none))) (tb (eOp2 (gIn not) (eFn gLen (aCons (eVar 1) aNil)) (eTup (aCons (eK (.int 4)) (aCons (eK (.int 9)) aNil)))))) (sRet (eK .none)) sNil) (sSeq (sIf (tNot (tb (eFn gAll (aCons x1__told_make aNil)))) (sRet (eK .none)) sNil) (sRet (eVar 1)))))
noncomputable def m__told_make : FSem := runFn 3 b__told_make
noncomputable def b_read_make : SemS := (sRet (eCall 2 m__alone (aCons (eVar 0) (aCons (eCall 1 m__told_make (aCons (eCall 1 m__first_line (aCons (eVar 0) aNil)) aNil)) aNil))))
noncomputable def m_read_make : FSem := runFn 1 b_read_make
noncomputable def b__law_well : SemS := (sSeq (sSet 2 (eIf (tb (eOp2 gLt (eVar 1) (eFn gLen (aCons (eVar 0) aNil)))) (eFn gInt (aCons (eOp2 gIx (eVar 0) (eVar 1)) aNil)) (eOp2 gAdd (eOp2 gMulX (eVar 1) (eK (.int 104723))) (eOp2 gMulX (eFn gLen (aCons (eVar 0) aNil)) (eK (.int 15485863)))))) (sRet (eLst (aCons (eFn gMax2 (aCons (eK (.int 0)) (aCons (eOp2 gSub (eFn gAbs (aCons (eVar 2) aNil)) (eOp2 gPow (eK (.int 10)) (eK (.int 18)))) aNil))) (aCons (eOp2 gMod (eFn gInt (aCons (eOp2 gAdd (eOp2 gAdd (eOp2 gMulX (eVar 2) (eK (.int 86028157))) (eOp2 gMulX (eVar 1) (eK (.int 179424691)))) (eK (.int 7919))) aNil)) (eOp2 gAdd (eOp2 gPow (eK (.int 10)) (eK (.int 25))) (eK (.int 13)))) (aCons (eK (.int 0)) aNil))))))
noncomputable def m__law_well : FSem := runFn 3 b__law_well
noncomputable def b__law_draw : SemS := (sSeq (sIf (tb (eOp2 gGt (eOp2 gIx (eVar 0) (eK (.int 0))) (eK (.int 0)))) (sSeq (sSet 2 (eOp2 gMod (eFn gInt (aCons (eOp2 gIx (eVar 0) (eK (.int 0))) aNil)) (eVar 1))) (sSeq (sSetIx 0 (eK (.int 0)) (eOp2 gDiv (eOp2 gIx (eVar 0) (eK (.int 0))) (eVar 1))) (sRet (eVar 2)))) sNil) (sSeq (sSetIx 0 (eK (.int 2)) (eOp2 gAdd (eOp2 gIx (eVar 0) (eK (.int 2))) (eK (.int 1)))) (sSeq (sSet 3 (eOp2 gMod (eFn gInt (aCons (eOp2 gPowW (eOp2 gAdd (eOp2 gIx (eVar 0) (eK (.int 1))) (eOp2 gMul (eK (.int 49979693)) (eOp2 gIx (eVar 0) (eK (.int 2))))) (eK (.int 3))) aNil)) (eOp2 gAdd (eOp2 gPow (eK (.int 10)) (eK (.int 29))) (eK (.int 319))))) (sSeq (sSet 3 (eOp2 gMod (eFn gInt (aCons (eOp2 gPowW (eOp2 gAdd (eVar 3) (eK (.int 2038074751))) (eK (.int 3))) aNil)) (eOp2 gAdd (eOp2 gPow (eK (.int 10)) (eK (.int 33))) (eK (.int 33))))) (sRet (eOp2 gMod (eFn gInt (aCons (eOp2 gDiv (eVar 3) (eOp2 gPow (eK (.int 10)) (eK (.int 6)))) aNil)) (eVar 1)))))))
noncomputable def m__law_draw : FSem := runFn 4 b__law_draw
noncomputable def x1__law_same (rec_ : FSem) : SemE := (eComp (iR1 (aCons (eFn gLen (aCons (eVar 1) aNil)) aNil)) (gN 2) tTrue (eCall 2 rec_ (aCons (eOp2 gIx (eVar 0) (eVar 2)) (aCons (eOp2 gIx (eVar 1) (eVar 2)) aNil))) [2])
noncomputable def m__law_same : Nat → FSem
  | 0 => fun _ => .bad
  | fuel + 1 => runFn 3 (sSeq (sIf (tb (eOp2 (gIsN id) (eVar 1) (eK .none))) (sRet (eOp2 (gIsN id) (eVar 0) (eK .none))) sNil) (sSeq (sIf (tb (eIsi isBool (eVar 1))) (sRet (eIf (tb (eVar 1)) (eOp2 (gIsN id) (eVar 0) (eK (.bool true))) (eOp2 (gIsN id) (eVar 0) (eK (.bool false))))) sNil) (sSeq (sIf (tb (eIsi isInt (eVar 1))) (sRet (eAnd (eIsi isInt (eVar 0)) (eAnd (eNot (eIsi isBool (eVar 0))) (eOp2 (gEq id) (eVar 0) (eVar 1))))) sNil) (sSeq (sIf (tb (eIsi isStr (eVar 1))) (sRet (eAnd (eIsi isStr (eVar 0)) (eOp2 (gEq id) (eVar 0) (eVar 1)))) sNil) (sSeq (sIf (tOr (tb (eOp2 (gEq not) (eIsi isTuple (eVar 1)) (eIsi isTuple (eVar 0)))) (tb (eOp2 (gEq not) (eIsi isList (eVar 1)) (eIsi isList (eVar 0))))) (sRet (eK (.bool false))) sNil) (sRet (eAnd (eOp2 (gEq id) (eFn gLen (aCons (eVar 0) aNil)) (eFn gLen (aCons (eVar 1) aNil))) (eFn gAll (aCons (x1__law_same (m__law_same fuel)) aNil)))))))))
noncomputable def y1__law_power : SemS := (sSet 2 (eOp2 gMul (eVar 2) (eVar 0)))
noncomputable def l1__law_power : SemS := (sFor (iR1 (aCons (eVar 1) aNil)) (gN 3) y1__law_power)
noncomputable def b__law_power : SemS := (sSeq (sSet 2 (eK (.int 1))) (sSeq l1__law_power (sRet (eVar 2))))
noncomputable def m__law_power : FSem := runFn 4 b__law_power
noncomputable def b__law_integer : SemS := (sSeq (sSet 2 (eCall 2 m__law_draw (aCons (eVar 0) (aCons (eK (.int 5)) aNil)))) (sSeq (sIf (tb (eOp2 gLt (eVar 2) (eK (.int 3)))) (sRet (eCall 2 m__law_draw (aCons (eVar 0) (aCons (eOp2 gIx (eLst (aCons (eK (.int 3)) (aCons (eK (.int 10)) (aCons (eK (.int 60)) aNil)))) (eVar 2)) aNil)))) sNil) (sSeq (sIf (tb (eOp2 (gEq id) (eVar 2) (eK (.int 3)))) (sRet (eOp2 gSub (eOp2 gSub (eCall 2 m__law_power (aCons (eK (.int 10)) (aCons (eVar 1) aNil))) (eK (.int 1))) (eCall 2 m__law_draw (aCons (eVar 0) (aCons (eK (.int 9)) aNil))))) sNil) (sRet (eCall 2 m__law_draw (aCons (eVar 0) (aCons (eCall 2 m__law_power (aCons (eK (.int 10)) (aCons (eOp2 gAdd (eK (.int 1)) (eCall 2 m__law_draw (aCons (eVar 0) (aCons (eVar 1) aNil)))) aNil))) aNil)))))))
noncomputable def m__law_integer : FSem := runFn 3 b__law_integer
noncomputable def b__law_above : SemS := (sSeq (sSet 3 (eOp2 gIx (eLst (aCons (eK (.int 1)) (aCons (eOp2 gAdd (eK (.int 1)) (eCall 2 m__law_draw (aCons (eVar 0) (aCons (eK (.int 9)) aNil)))) (aCons (eOp2 gAdd (eK (.int 1)) (eCall 2 m__law_integer (aCons (eVar 0) (aCons (eVar 2) aNil)))) aNil)))) (eCall 2 m__law_draw (aCons (eVar 0) (aCons (eK (.int 3)) aNil))))) (sRet (eOp2 gAdd (eVar 1) (eVar 3))))
noncomputable def m__law_above : FSem := runFn 4 b__law_above
noncomputable def x1__law_said : SemE := (eComp (iOf (eVar 0)) (gN 1) tTrue (eFn gStr (aCons (eVar 1) aNil)) [1])
noncomputable def b__law_said : SemS := (sRet (eJoin (eK (.str " ")) x1__law_said))
noncomputable def m__law_said : FSem := runFn 2 b__law_said
noncomputable def x1__law_said_parts : SemE := (eComp (iOf (eVar 0)) (gN 1) tTrue (eCall 1 m__law_said (aCons (eVar 1) aNil)) [1])
noncomputable def b__law_said_parts : SemS := (sRet (eJoin (eK (.str ", ")) x1__law_said_parts))
noncomputable def m__law_said_parts : FSem := runFn 2 b__law_said_parts
noncomputable def y1__law_door : SemS := (sSeq (sSet 9 (eCall 3 m__law_above (aCons (eVar 0) (aCons (eVar 7) (aCons (eOp2 gIx (eLst (aCons (eK (.int 1)) (aCons (eK (.int 2)) (aCons (eOp2 gSub (eVar 2) (eK (.int 3))) aNil)))) (eCall 2 m__law_draw (aCons (eVar 0) (aCons (eK (.int 3)) aNil)))) aNil))))) (sSeq (sDrop (eMut 6 gAppend (aCons (eTup (aCons (eVar 7) (aCons (eVar 9) aNil))) aNil))) (sSet 7 (eCall 3 m__law_above (aCons (eVar 0) (aCons (eVar 9) (aCons (eOp2 gIx (eLst (aCons (eK (.int 1)) (aCons (eK (.int 2)) (aCons (eOp2 gSub (eVar 2) (eK (.int 3))) aNil)))) (eCall 2 m__law_draw (aCons (eVar 0) (aCons (eK (.int 3)) aNil)))) aNil)))))))
noncomputable def l1__law_door : SemS := (sFor (iR1 (aCons (eOp2 gAdd (eK (.int 1)) (eCall 2 m__law_draw (aCons (eVar 0) (aCons (eOp2 gIx (eLst (aCons (eK (.int 2)) (aCons (eK (.int 6)) (aCons (eVar 3) (aCons (eK (.int 97)) aNil))))) (eCall 2 m__law_draw (aCons (eVar 0) (aCons (eK (.int 4)) aNil)))) aNil)))) aNil)) (gN 8) y1__law_door)
noncomputable def x1__law_door : SemE := (eComp (iOf (eVar 4)) (gT 2 (gsCons (gN 11) (gsCons (gN 9) gsNil))) tTrue (eOp2 gAdd (eOp2 gAdd (eFn gStr (aCons (eVar 11) aNil)) (eK (.str "-"))) (eFn gStr (aCons (eVar 9) aNil))) [11, 9])
noncomputable def x2__law_door : SemE := (eComp (iR1 (aCons (eVar 10) aNil)) (gN 8) tTrue (eTup (aCons (eCall 2 m__law_draw (aCons (eVar 0) (aCons (eK (.int 4)) aNil))) (aCons (eCall 2 m__law_draw (aCons (eVar 0) (aCons (eK (.int 2)) aNil))) (aCons (eCall 2 m__law_draw (aCons (eVar 0) (aCons (eK (.int 2)) aNil))) aNil)))) [8])
noncomputable def b__law_door : SemS := (sSeq (sIf (tb (eOp2 (gEq id) (eVar 1) (eK (.int 0)))) (sSeq (sSet 4 (eTup (aCons (eCall 2 m__law_integer (aCons (eVar 0) (aCons (eVar 2) aNil))) (aCons (eCall 2 m__law_integer (aCons (eVar 0) (aCons (eVar 2) aNil))) aNil)))) (sRet (eTup (aCons (eVar 4) (aCons (eCall 1 m__law_said (aCons (eVar 4) aNil)) aNil))))) sNil) (sSeq (sIf (tb (eOp2 (gEq id) (eVar 1) (eK (.int 1)))) (sSeq (sSet 5 (eTup (aCons (eCall 2 m__law_integer (aCons (eVar 0) (aCons (eOp2 gSub (eVar 2) (eK (.int 2))) aNil))) (aCons (eCall 2 m__law_integer (aCons (eVar 0) (aCons (eOp2 gSub (eVar 2) (eK (.int 2))) aNil))) aNil)))) (sSeq (sSet 4 (eOp2 gAdd (eVar 5) (eTup (aCons (eCall 3 m__law_above (aCons (eVar 0) (aCons (eOp2 gIx (eVar 5) (eK (.int 0))) (aCons (eOp2 gSub (eVar 2) (eK (.int 2))) aNil)))) (aCons (eCall 3 m__law_above (aCons (eVar 0) (aCons (eOp2 gIx (eVar 5) (eK (.int 1))) (aCons (eOp2 gSub (eVar 2) (eK (.int 2))) aNil)))) aNil))))) (sRet (eTup (aCons (eVar 4) (aCons (eCall 1 m__law_said (aCons (eVar 4) aNil)) aNil)))))) sNil) (sSeq (sIf (tb (eOp2 (gEq id) (eVar 1) (eK (.int 2)))) (sSeq (sPar [6, 7] (aCons (eLst aNil) (aCons (eCall 2 m__law_integer (aCons (eVar 0) (aCons (eOp2 gIx (eLst (aCons (eK (.int 2)) (aCons (eOp2 gSub (eVar 2) (eK (.int 3))) aNil))) (eCall 2 m__law_draw (aCons (eVar 0) (aCons (eK (.int 2)) aNil)))) aNil))) aNil))) (sSeq l1__law_door (sSeq (sSet 4 (eFn gTuple (aCons (eVar 6) aNil))) (sRet (eTup (aCons (eVar 4) (aCons (eJoin (eK (.str " ")) x1__law_door) aNil))))))) sNil) (sSeq (sSet 10 (eOp2 gIx (eLst (aCons (eK (.int 4)) (aCons (eK (.int 9)) (aCons (eK (.int 4)) (aCons (eK (.int 9)) (aCons (eK (.int 4)) (aCons (eK (.int 9)) (aCons (eK (.int 1)) (aCons (eK (.int 16)) (aCons (eK (.int 25)) (aCons (eK (.int 13)) aNil))))))))))) (eCall 2 m__law_draw (aCons (eVar 0) (aCons (eK (.int 10)) aNil))))) (sSeq (sSet 4 (eFn gTuple (aCons x2__law_door aNil))) (sRet (eTup (aCons (eVar 4) (aCons (eCall 1 m__law_said_parts (aCons (eVar 4) aNil)) aNil)))))))))
noncomputable def m__law_door : FSem := runFn 12 b__law_door
noncomputable def b__law_sign : SemS := (sSeq (sSet 1 (eK (.str " !\"#$&'()*+,-./0123456789:;<=>?@ABCDEFGHIJKLMNOPQRSTUVWXYZ[\\]^_`"))) (sSeq (sSet 1 (eOp2 gIx (eLst (aCons (eOp2 gAdd (eVar 1) (eK (.str "abcdefghijklmnopqrstuvwxyz{|}~\n"))) (aCons (eK (.str "0123456789- ,\n")) aNil))) (eCall 2 m__law_draw (aCons (eVar 0) (aCons (eK (.int 2)) aNil))))) (sRet (eOp2 gIxS (eVar 1) (eCall 2 m__law_draw (aCons (eVar 0) (aCons (eFn gLenS (aCons (eVar 1) aNil)) aNil)))))))
noncomputable def m__law_sign : FSem := runFn 2 b__law_sign
noncomputable def b__law_odd_word : SemS := (sSeq (sSet 1 (eLst (aCons (eK (.str "")) (aCons (eK (.str "0")) (aCons (eK (.str "-0")) (aCons (eK (.str "+1")) (aCons (eK (.str "01")) (aCons (eK (.str "1")) (aCons (eK (.str "2")) (aCons (eK (.str "3")) (aCons (eK (.str "4")) (aCons (eK (.str "5")) (aCons (eK (.str "00")) (aCons (eK (.str "-")) (aCons (eK (.str "--")) (aCons (eK (.str "1.0")) (aCons (eK (.str "1_0")) (aCons (eK (.str "1,")) (aCons (eK (.str ",1")) (aCons (eK (.str "-1")) aNil)))))))))))))))))))) (sSeq (sSet 1 (eOp2 gAdd (eVar 1) (eLst (aCons (eOp2 gRepS (eK (.str "9")) (eK (.int 40))) (aCons (eOp2 gAdd (eK (.str "1")) (eOp2 gRepS (eK (.str "0")) (eK (.int 40)))) (aCons (eOp2 gRepS (eK (.str "0")) (eK (.int 41))) (aCons (eOp2 gRepS (eK (.str "7")) (eK (.int 4400))) (aCons (eK (.str ",")) (aCons (eK (.str "1 2")) (aCons (eK (.str "0-1")) (aCons (eK (.str "1-2")) (aCons (eK (.str "1-")) (aCons (eK (.str "1--2")) (aCons (eK (.str "0-01")) aNil)))))))))))))) (sSeq (sSet 1 (eOp2 gAdd (eVar 1) (eLst (aCons (eK (.str "1-2-3")) (aCons (eK (.str "2-2")) (aCons (eK (.str "3-2")) (aCons (eK (.str "book")) (aCons (eK (.str "field")) (aCons (eK (.str "Book")) (aCons (eK (.str "books")) (aCons (eK (.str "fields")) (aCons (eK (.str "book 2")) (aCons (eK (.str "field 0 0 0")) (aCons (eK (.str "x")) aNil)))))))))))))) (sSeq (sSet 1 (eOp2 gAdd (eVar 1) (eLst (aCons (eK (.str " ")) (aCons (eK (.str "1 0")) (aCons (eK (.str "0 0 0")) (aCons (eK (.str "0 0 0, 1 0 0")) (aCons (eK (.str ", 0 0 0")) (aCons (eK (.str "0x1")) (aCons (eK (.str "1e3")) (aCons (eK (.str "10")) (aCons (eK (.str "9")) (aCons (eK (.str "8")) aNil))))))))))))) (sRet (eOp2 gIx (eVar 1) (eCall 2 m__law_draw (aCons (eVar 0) (aCons (eFn gLen (aCons (eVar 1) aNil)) aNil)))))))))
noncomputable def m__law_odd_word : FSem := runFn 2 b__law_odd_word
noncomputable def b__law_bent_signs : SemS := (sSeq (sPar [2, 3] (aCons (eCall 2 m__law_draw (aCons (eVar 0) (aCons (eOp2 gAdd (eFn gLenS (aCons (eVar 1) aNil)) (eK (.int 1))) aNil))) (aCons (eCall 2 m__law_draw (aCons (eVar 0) (aCons (eK (.int 4)) aNil))) aNil))) (sSeq (sIf (tb (eOp2 (gEq id) (eVar 3) (eK (.int 0)))) (sRet (eOp2 gAdd (eOp2 gAdd (eSlS (eVar 1) pNo (pSo (eVar 2))) (eCall 1 m__law_sign (aCons (eVar 0) aNil))) (eSlS (eVar 1) (pSo (eVar 2)) pNo))) sNil) (sSeq (sIf (tb (eOp2 (gEq id) (eVar 3) (eK (.int 1)))) (sRet (eOp2 gAdd (eOp2 gAdd (eSlS (eVar 1) pNo (pSo (eVar 2))) (eCall 1 m__law_sign (aCons (eVar 0) aNil))) (eSlS (eVar 1) (pSo (eOp2 gAdd (eVar 2) (eK (.int 1)))) pNo))) sNil) (sSeq (sIf (tb (eOp2 (gEq id) (eVar 3) (eK (.int 2)))) (sRet (eOp2 gAdd (eSlS (eVar 1) pNo (pSo (eVar 2))) (eSlS (eVar 1) (pSo (eOp2 gAdd (eVar 2) (eK (.int 1)))) pNo))) sNil) (sRet (eOp2 gAdd (eOp2 gAdd (eOp2 gAdd (eSlS (eVar 1) pNo (pSo (eVar 2))) (eSlS (eVar 1) (pSo (eOp2 gAdd (eVar 2) (eK (.int 1)))) (pSo (eOp2 gAdd (eVar 2) (eK (.int 2)))))) (eSlS (eVar 1) (pSo (eVar 2)) (pSo (eOp2 gAdd (eVar 2) (eK (.int 1)))))) (eSlS (eVar 1) (pSo (eOp2 gAdd (eVar 2) (eK (.int 2)))) pNo)))))))
noncomputable def m__law_bent_signs : FSem := runFn 4 b__law_bent_signs
noncomputable def b__law_bent_parts : SemS := (sSeq (sSet 4 (eSM1 fSplit (eVar 1) (eVar 2))) (sSeq (sPar [5, 6] (aCons (eCall 2 m__law_draw (aCons (eVar 0) (aCons (eFn gLen (aCons (eVar 4) aNil)) aNil))) (aCons (eCall 2 m__law_draw (aCons (eVar 0) (aCons (eK (.int 4)) aNil))) aNil))) (sSeq (sSet 7 (eCall 2 m__law_draw (aCons (eVar 0) (aCons (eFn gLen (aCons (eVar 4) aNil)) aNil)))) (sSeq (sIf (tb (eOp2 (gEq id) (eVar 6) (eK (.int 0)))) (sDrop (eMut 4 gInsert (aCons (eVar 7) (aCons (eOp2 gIx (eVar 4) (eVar 5)) aNil)))) (sIf (tb (eOp2 (gEq id) (eVar 6) (eK (.int 1)))) (sDrop (eMut 4 gPop (aCons (eVar 5) aNil))) (sIf (tb (eOp2 (gEq id) (eVar 6) (eK (.int 2)))) (sSeq (sSet 8 (eOp2 gIx (eVar 4) (eVar 5))) (sSeq (sSetIx 4 (eVar 5) (eOp2 gIx (eVar 4) (eVar 7))) (sSetIx 4 (eVar 7) (eVar 8)))) (sSetIx 4 (eVar 5) (eVar 3))))) (sRet (eJoin (eVar 2) (eVar 4)))))))
noncomputable def m__law_bent_parts : FSem := runFn 9 b__law_bent_parts
noncomputable def x1__law_integer_in : SemE := (eComp (iTx (eVar 0)) (gN 1) (tb (eOp2 gNiS (eVar 1) (eK (.str "0123456789")))) (eVar 1) [1])
noncomputable def b__law_integer_in : SemS := (sSeq (sIf (tOr (tb (eOp2 (gEq id) (eVar 0) (eK (.str "")))) (tOr (tb (eOp2 gGt (eFn gLenS (aCons (eVar 0) aNil)) (eK (.int 40)))) (tb (eOp2 (gEq not) x1__law_integer_in (eLst aNil))))) (sRet (eLst aNil)) sNil) (sRet (eIf (tAnd (tb (eOp2 (gEq id) (eOp2 gIxS (eVar 0) (eK (.int 0))) (eK (.str "0")))) (tb (eOp2 (gEq not) (eVar 0) (eK (.str "0"))))) (eLst aNil) (eLst (aCons (eFn gIntT (aCons (eVar 0) aNil)) aNil)))))
noncomputable def m__law_integer_in : FSem := runFn 2 b__law_integer_in
noncomputable def x1__law_all_in : SemE := (eComp (iOf (eVar 0)) (gN 1) tTrue (eOp2 gIx (eVar 1) (eK (.int 0))) [1])
noncomputable def b__law_all_in : SemS := (sRet (eIf (tb (eOp2 (gIn id) (eLst aNil) (eVar 0))) (eLst aNil) (eLst (aCons (eFn gTuple (aCons x1__law_all_in aNil)) aNil))))
noncomputable def m__law_all_in : FSem := runFn 2 b__law_all_in
noncomputable def x1__law_integers_in : SemE := (eComp (iOf (eSM1 fSplit (eVar 0) (eVar 2))) (gN 4) tTrue (eCall 1 m__law_integer_in (aCons (eVar 4) aNil)) [4])
noncomputable def b__law_integers_in : SemS := (sSeq (sSet 3 (eCall 1 m__law_all_in (aCons x1__law_integers_in aNil))) (sRet (eIf (tAnd (tb (eOp2 (gEq not) (eVar 3) (eLst aNil))) (tb (eOp2 (gEq id) (eFn gLen (aCons (eOp2 gIx (eVar 3) (eK (.int 0))) aNil)) (eVar 1)))) (eVar 3) (eLst aNil))))
noncomputable def m__law_integers_in : FSem := runFn 5 b__law_integers_in
noncomputable def x1__law_parts_in : SemE := (eComp (iOf (eSM1 fSplit (eVar 0) (eK (.str ", ")))) (gN 1) tTrue (eCall 3 m__law_integers_in (aCons (eVar 1) (aCons (eK (.int 3)) (aCons (eK (.str " ")) aNil)))) [1])
noncomputable def b__law_parts_in : SemS := (sRet (eCall 1 m__law_all_in (aCons x1__law_parts_in aNil)))
noncomputable def m__law_parts_in : FSem := runFn 2 b__law_parts_in
noncomputable def x1__law_found : SemE := (eComp (iOf (eSM1 fSplit (eVar 1) (eK (.str " ")))) (gN 6) tTrue (eCall 3 m__law_integers_in (aCons (eVar 6) (aCons (eK (.int 2)) (aCons (eK (.str "-")) aNil)))) [6])
noncomputable def y1__law_found : SemS := (sSeq (sIf (tOr (tb (eOp2 gLe (eVar 4) (eVar 3))) (tb (eOp2 gLe (eVar 5) (eVar 4)))) (sRet (eLst aNil)) sNil) (sSet 3 (eVar 5)))
noncomputable def l1__law_found : SemS := (sFor (iOf (eIf (tb (eOp2 (gEq not) (eVar 2) (eLst aNil))) (eOp2 gIx (eVar 2) (eK (.int 0))) (eTup aNil))) (gT 2 (gsCons (gN 4) (gsCons (gN 5) gsNil))) y1__law_found)
noncomputable def x2__law_found : SemE := (eComp (iOf (eOp2 gIx (eVar 2) (eK (.int 0)))) (gT 3 (gsCons (gN 7) (gsCons (gN 8) (gsCons (gN 9) gsNil)))) (tOr (tb (eOp2 gGt (eVar 7) (eK (.int 3)))) (tOr (tb (eOp2 gGt (eVar 8) (eK (.int 1)))) (tb (eOp2 gGt (eVar 9) (eK (.int 1)))))) (eK (.int 1)) [7, 8, 9])
noncomputable def b__law_found : SemS := (sSeq (sIf (tb (eOp2 (gEq id) (eVar 0) (eK (.int 0)))) (sRet (eCall 3 m__law_integers_in (aCons (eVar 1) (aCons (eK (.int 2)) (aCons (eK (.str " ")) aNil))))) sNil) (sSeq (sIf (tb (eOp2 (gEq id) (eVar 0) (eK (.int 1)))) (sSeq (sSet 2 (eCall 3 m__law_integers_in (aCons (eVar 1) (aCons (eK (.int 4)) (aCons (eK (.str " ")) aNil))))) (sRet (eIf (tAnd (tb (eOp2 (gEq not) (eVar 2) (eLst aNil))) (tAnd (tb (eOp2 gLt (eOp2 gIx (eOp2 gIx (eVar 2) (eK (.int 0))) (eK (.int 0))) (eOp2 gIx (eOp2 gIx (eVar 2) (eK (.int 0))) (eK (.int 2))))) (tb (eOp2 gLt (eOp2 gIx (eOp2 gIx (eVar 2) (eK (.int 0))) (eK (.int 1))) (eOp2 gIx (eOp2 gIx (eVar 2) (eK (.int 0))) (eK (.int 3))))))) (eVar 2) (eLst aNil)))) sNil) (sSeq (sIf (tb (eOp2 (gEq id) (eVar 0) (eK (.int 2)))) (sSeq (sPar [2, 3] (aCons (eCall 1 m__law_all_in (aCons x1__law_found aNil)) (aCons (eNeg (eK (.int 1))) aNil))) (sSeq l1__law_found (sRet (eVar 2)))) sNil) (sSeq (sSet 2 (eCall 1 m__law_parts_in (aCons (eVar 1) aNil))) (sSeq (sIf (tOr (tb (eOp2 (gEq id) (eVar 2) (eLst aNil))) (tb (eOp2 (gIn not) (eFn gLen (aCons (eOp2 gIx (eVar 2) (eK (.int 0))) aNil)) (eTup (aCons (eK (.int 4)) (aCons (eK (.int 9)) aNil)))))) (sRet (eLst aNil)) sNil) (sRet (eIf (tb (eOp2 (gEq id) x2__law_found (eLst aNil))) (eVar 2) (eLst aNil))))))))
noncomputable def m__law_found : FSem := runFn 10 b__law_found
noncomputable def b__law_due : SemS := (sSeq (sSet 2 (eCall 2 m__law_found (aCons (eVar 0) (aCons (eOp2 gIx (eSM1 fSplit (eVar 1) (eK (.str "\n"))) (eK (.int 0))) aNil)))) (sSeq (sIf (tb (eOp2 (gEq id) (eVar 2) (eLst aNil))) (sRet (eTup (aCons (eK (.str "refused")) (aCons (eK (.int 1)) aNil)))) sNil) (sRet (eIf (tb (eOp2 gInS (eK (.str "\n")) (eVar 1))) (eTup (aCons (eK (.str "refused")) (aCons (eK (.int 2)) aNil))) (eTup (aCons (eK (.str "told")) (aCons (eOp2 gIx (eVar 2) (eK (.int 0))) aNil)))))))
noncomputable def m__law_due : FSem := runFn 3 b__law_due
noncomputable def b__law_read : SemS := (sSeq (sIf (tb (eOp2 (gEq id) (eVar 0) (eK (.int 0)))) (sRet (eIf (tb (eVar 2)) (eCallK 1 [0] m_read_cell (aCons (eVar 1) aNil)) (eCall 1 m_read_cell (aCons (eVar 1) aNil)))) sNil) (sSeq (sIf (tb (eOp2 (gEq id) (eVar 0) (eK (.int 1)))) (sRet (eIf (tb (eVar 2)) (eCallK 1 [0] m_read_box (aCons (eVar 1) aNil)) (eCall 1 m_read_box (aCons (eVar 1) aNil)))) sNil) (sSeq (sIf (tb (eOp2 (gEq id) (eVar 0) (eK (.int 2)))) (sRet (eIf (tb (eVar 2)) (eCallK 1 [0] m_read_spans (aCons (eVar 1) aNil)) (eCall 1 m_read_spans (aCons (eVar 1) aNil)))) sNil) (sRet (eIf (tb (eVar 2)) (eCallK 1 [0] m_read_make (aCons (eVar 1) aNil)) (eCall 1 m_read_make (aCons (eVar 1) aNil)))))))
noncomputable def m__law_read : FSem := runFn 3 b__law_read
noncomputable def b__law_told : SemS := (sSeq (sPar [3, 4] (aCons (eK (.str "told")) (aCons (eK .none) aNil))) (sSeq (sTry (["ThreadError", "Unreadable"] : List Str) (sSet 4 (eCall 3 m__law_read (aCons (eVar 0) (aCons (eVar 1) (aCons (eVar 2) aNil))))) [("Unreadable", some 5, sPut2 3 4 (.str "refused")), ("ThreadError", none, fun _ => (sSet 3 (eK (.str "other"))))]) (sRet (eTup (aCons (eVar 3) (aCons (eVar 4) aNil))))))
noncomputable def m__law_told : FSem := runFn 6 b__law_told
noncomputable def b__law_met : SemS := (sSeq (sSet 2 (eSM1 fSplit (eVar 1) (eK (.str " ")))) (sSeq (sSet 3 (eCall 2 m__law_draw (aCons (eVar 0) (aCons (eFn gLen (aCons (eVar 2) aNil)) aNil)))) (sSeq (sIf (tAnd (tb (eOp2 gGt (eVar 3) (eK (.int 0)))) (tb (eOp2 gInS (eK (.str "-")) (eVar 1)))) (sSetIx 2 (eVar 3) (eOp2 gAdd (eOp2 gAdd (eOp2 gIx (eSM1 fSplit (eOp2 gIx (eVar 2) (eOp2 gSub (eVar 3) (eK (.int 1)))) (eK (.str "-"))) (eNeg (eK (.int 1)))) (eK (.str "-"))) (eOp2 gIx (eSM1 fSplit (eOp2 gIx (eVar 2) (eVar 3)) (eK (.str "-"))) (eNeg (eK (.int 1)))))) (sIf (tb (eOp2 gGt (eVar 3) (eK (.int 1)))) (sSetIx 2 (eVar 3) (eOp2 gIx (eVar 2) (eOp2 gSub (eVar 3) (eK (.int 2))))) sNil)) (sRet (eJoin (eK (.str " ")) (eVar 2))))))
noncomputable def m__law_met : FSem := runFn 4 b__law_met
noncomputable def y1__law_bent : SemS := (sSeq (sSet 3 (eCall 2 m__law_draw (aCons (eVar 0) (aCons (eK (.int 10)) aNil)))) (sIf (tb (eOp2 gLt (eVar 3) (eK (.int 3)))) (sSet 1 (eCall 2 m__law_bent_signs (aCons (eVar 0) (aCons (eVar 1) aNil)))) (sIf (tb (eOp2 (gEq id) (eVar 3) (eK (.int 9)))) (sSet 1 (eCall 2 m__law_met (aCons (eVar 0) (aCons (eVar 1) aNil)))) (sIf (tb (eOp2 gLt (eVar 3) (eK (.int 6)))) (sSet 1 (eCall 4 m__law_bent_parts (aCons (eVar 0) (aCons (eVar 1) (aCons (eK (.str " ")) (aCons (eCall 1 m__law_odd_word (aCons (eVar 0) aNil)) aNil)))))) (sIf (tb (eOp2 (gEq id) (eVar 3) (eK (.int 6)))) (sSeq (sSet 4 (eOp2 gIx (eLst (aCons (eK (.str "")) (aCons (eK (.str "0 0 0")) (aCons (eK (.str "4 0 0")) (aCons (eK (.str "0 2 0")) (aCons (eK (.str "1 1 2")) (aCons (eK (.str "3 1 1")) aNil))))))) (eCall 2 m__law_draw (aCons (eVar 0) (aCons (eK (.int 6)) aNil))))) (sSet 1 (eCall 4 m__law_bent_parts (aCons (eVar 0) (aCons (eVar 1) (aCons (eK (.str ", ")) (aCons (eVar 4) aNil))))))) (sIf (tb (eOp2 (gEq id) (eVar 3) (eK (.int 7)))) (sSet 1 (eCall 4 m__law_bent_parts (aCons (eVar 0) (aCons (eVar 1) (aCons (eK (.str "-")) (aCons (eOp2 gIx (eLst (aCons (eK (.str "")) (aCons (eK (.str "1")) (aCons (eK (.str "0")) (aCons (eK (.str " ")) (aCons (eK (.str "2 3")) aNil)))))) (eCall 2 m__law_draw (aCons (eVar 0) (aCons (eK (.int 5)) aNil)))) aNil)))))) (sSet 1 (eOp2 gAdd (eOp2 gAdd (eVar 1) (eK (.str "\n"))) (eOp2 gIx (eLst (aCons (eK (.str "")) (aCons (eK (.str "0")) (aCons (eK (.str " ")) (aCons (eSlS (eVar 1) pNo (pSo (eK (.int 3)))) (aCons (eK (.str "\n")) (aCons (eK (.str "1 2")) aNil))))))) (eCall 2 m__law_draw (aCons (eVar 0) (aCons (eK (.int 6)) aNil))))))))))))
noncomputable def l1__law_bent : SemS := (sFor (iR1 (aCons (eOp2 gIx (eLst (aCons (eK (.int 0)) (aCons (eK (.int 1)) (aCons (eK (.int 1)) (aCons (eK (.int 1)) (aCons (eK (.int 2)) (aCons (eK (.int 3)) aNil))))))) (eCall 2 m__law_draw (aCons (eVar 0) (aCons (eK (.int 6)) aNil)))) aNil)) (gN 2) y1__law_bent)
noncomputable def b__law_bent : SemS := (sSeq l1__law_bent (sRet (eVar 1)))
noncomputable def m__law_bent : FSem := runFn 5 b__law_bent
noncomputable def y1_law : SemS := (sSeq (sSet 5 (eCall 2 m__law_bent (aCons (eVar 3) (aCons (eOp2 gIx (eCall 4 m__law_door (aCons (eVar 3) (aCons (eVar 4) (aCons (eOp2 gIx (eLst (aCons (eK (.int 4)) (aCons (eK (.int 40)) aNil))) (eCall 2 m__law_draw (aCons (eVar 3) (aCons (eK (.int 2)) aNil)))) (aCons (eK (.int 15)) aNil))))) (eK (.int 1))) aNil)))) (sSeq (sIf (tAnd (tb (eOp2 (gEq id) (eVar 4) (eK (.int 3)))) (tb (eOp2 (gEq id) (eCall 2 m__law_draw (aCons (eVar 3) (aCons (eK (.int 12)) aNil))) (eK (.int 0))))) (sSet 5 (eRepl (eVar 5) ", " [",", " , ", ",  "] (eCall 2 m__law_draw (aCons (eVar 3) (aCons (eK (.int 3)) aNil))))) sNil) (sSeq (sSet 6 (eIf (tb (eOp2 gGt (eCall 2 m__law_draw (aCons (eVar 3) (aCons (eK (.int 4)) aNil))) (eK (.int 0)))) (eVar 4) (eCall 2 m__law_draw (aCons (eVar 3) (aCons (eK (.int 4)) aNil))))) (sSeq (sSet 7 (eCall 2 m__law_due (aCons (eVar 6) (aCons (eVar 5) aNil)))) (sSeq (sIf (tNot (tb (eCall 2 (m__law_same 8) (aCons (eCall 3 m__law_told (aCons (eVar 6) (aCons (eVar 5) (aCons (eOp2 (gEq id) (eCall 2 m__law_draw (aCons (eVar 3) (aCons (eK (.int 2)) aNil))) (eK (.int 0))) aNil)))) (aCons (eVar 7) aNil))))) (sRet (eK (.bool false))) sNil) (sDrop (eMut 1 gAppend (aCons (eTup (aCons (eVar 6) (aCons (eVar 5) (aCons (eVar 7) aNil)))) aNil))))))))
noncomputable def l1_law : SemS := (sFor (iOf (eLst (aCons (eK (.int 0)) (aCons (eK (.int 1)) (aCons (eK (.int 2)) (aCons (eK (.int 2)) (aCons (eK (.int 3)) aNil))))))) (gN 4) y1_law)
noncomputable def y2_law : SemS := (sSeq (sSet 3 (eCall 2 m__law_well (aCons (eVar 0) (aCons (eVar 2) aNil)))) l1_law)
noncomputable def l2_law : SemS := (sFor (iR1 (aCons (eFn gMax2 (aCons (eK (.int 1)) (aCons (eFn gMin2 (aCons (eK (.int 6)) (aCons (eFn gLen (aCons (eVar 0) aNil)) aNil))) aNil))) aNil)) (gN 2) y2_law)
noncomputable def y3_law : SemS := (sIf (tNot (tb (eCall 2 (m__law_same 8) (aCons (eCall 3 m__law_told (aCons (eVar 6) (aCons (eVar 5) (aCons (eOp2 gLt (eFn gLenS (aCons (eVar 5) aNil)) (eK (.int 9))) aNil)))) (aCons (eVar 7) aNil))))) (sRet (eK (.bool false))) sNil)
noncomputable def l3_law : SemS := (sFor (iOf (eRev (eVar 1))) (gT 3 (gsCons (gN 6) (gsCons (gN 5) (gsCons (gN 7) gsNil)))) y3_law)
noncomputable def b_law : SemS := (sSeq (sSet 1 (eLst aNil)) (sSeq l2_law (sSeq l3_law (sRet (eK (.bool true))))))
noncomputable def m_law : FSem := runFn 8 b_law
end Lw

set_option maxHeartbeats 4000000
namespace Lw
open PySem PySem.Spec PyProof.Rows L2 Ev Lz
theorem boot_len : bootBuiltins "len" = some (.builtin "len") := by decide +kernel
theorem boot_abs : bootBuiltins "abs" = some (.builtin "abs") := by decide +kernel
theorem boot_all : bootBuiltins "all" = some (.builtin "all") := by decide +kernel
theorem boot_max : bootBuiltins "max" = some (.builtin "max") := by decide +kernel
theorem boot_min : bootBuiltins "min" = some (.builtin "min") := by decide +kernel
theorem boot_int : bootBuiltins "int" = some (.type "int") := by decide +kernel
theorem boot_tuple : bootBuiltins "tuple" = some (.type "tuple") := by decide +kernel
theorem boot_list : bootBuiltins "list" = some (.type "list") := by decide +kernel
theorem boot_bool : bootBuiltins "bool" = some (.type "bool") := by decide +kernel
theorem boot_str : bootBuiltins "str" = some (.type "str") := by decide +kernel
section
variable {P : Program} {w : World} {K : PySem.W.Frag} {h : Heap} {mg : Str → Option Value} {base : Heap}
theorem sc_ini : FnScope ["self", "value"] ["self", "value"] (defScope s_ini) := ⟨rfl, rfl, rfl, by decide +kernel, rfl, by decide +kernel, by decide +kernel⟩
theorem ok_ini (X0 : K.In h) (G : h.Ns mainGlobals mg) (c : He.SaysD fa fn K) : ∃ fd, FunD K "__init__" "ThreadError.__init__" (defArgs s_ini) (defBody s_ini) (defScope s_ini) [] [] (He.fAd K iniP) fd ∧ FnOk P w K mg base (L2N.CX P w) 1 (He.fAd K iniP) fd ["self", "value"] (spI K) := by
  obtain ⟨fd, F⟩ := c.def_ 42 (d := d_ini) rfl
  exact ⟨fd, F, ini_ok F sc_ini rfl rfl rfl⟩
abbrev N_is_whole : List Str := ["told"]
theorem sc_is_whole : FnScope N_is_whole ["told"] (defScope s_is_whole) := ⟨rfl, rfl, rfl, by decide +kernel, rfl, by decide +kernel, by decide +kernel⟩
theorem ok_is_whole (X0 : K.In h) (G : h.Ns mainGlobals mg) (c : He.SaysD fa fn K) (cx : exB (["ThreadError", "Unreadable"] : List Str) K = true) : ∃ fd, FunD K "is_whole" "is_whole" (defArgs s_is_whole) (defBody s_is_whole) (defScope s_is_whole) [] [] (He.ga K "is_whole") fd ∧ FnOk P w K mg base (L2N.CX P w) 1 (He.ga K "is_whole") fd ["told"] (spF K 1 m_is_whole) := by
  have f_bool : mg "bool" = none := He.free_ok X0 G (c.fact 45 rfl)
  have f_int : mg "int" = none := He.free_ok X0 G (c.fact 46 rfl)
  have f_isinstance : mg "isinstance" = none := He.free_ok X0 G (c.fact 47 rfl)
  obtain ⟨fd, F⟩ := c.def_ 0 (d := d_is_whole) rfl
  refine ⟨fd, F, fn_ok (k := 0) F sc_is_whole fun cdv A outer s H E hr B => ?_⟩
  have hp : PassesOwn (model P w) _ _ _ := passes_of (X := cxOf (L2N.CX P w) P w K mg base N_is_whole "is_whole" (defScope s_is_whole) (He.ga K "is_whole") cdv A outer s H E) (K := fun e s'' => L2N.CX P w outer H s E e s'') rfl
  have tk := L2N.takes_of (X := cxOf (L2N.CX P w) P w K mg base N_is_whole "is_whole" (defScope s_is_whole) (He.ga K "is_whole") cdv A outer s H E) (E := E) rfl rfl rfl rfl
  have nd := sc_is_whole.nd
  exact (qone (qret (qand (qisi k_int rfl f_isinstance rfl f_int boot_int (qvar (i := 0) rfl (.inl rfl))) (qone_ (qnot (qisi k_bool rfl f_isinstance rfl f_bool boot_bool (qvar (i := 0) rfl (.inl rfl))))))))
abbrev N_is_count : List Str := ["told"]
theorem sc_is_count : FnScope N_is_count ["told"] (defScope s_is_count) := ⟨rfl, rfl, rfl, by decide +kernel, rfl, by decide +kernel, by decide +kernel⟩
theorem ok_is_count (X0 : K.In h) (G : h.Ns mainGlobals mg) (c : He.SaysD fa fn K) (cx : exB (["ThreadError", "Unreadable"] : List Str) K = true) : ∃ fd, FunD K "is_count" "is_count" (defArgs s_is_count) (defBody s_is_count) (defScope s_is_count) [] [] (He.ga K "is_count") fd ∧ FnOk P w K mg base (L2N.CX P w) 2 (He.ga K "is_count") fd ["told"] (spF K 1 m_is_count) := by
  obtain ⟨fd_is_whole, F_is_whole, O_is_whole⟩ := ok_is_whole (P := P) (w := w) (base := base) X0 G c cx
  have b_is_whole : Binds K fd_is_whole ["told"] [] := F_is_whole.bindsN fun _ _ _ _ _ _ us hl => match us, hl with | [_], _ => rfl
  have g_is_whole : mg "is_whole" = some (.ref (He.ga K "is_whole")) := He.glo_ok X0 G (c.fact 0 rfl)
  obtain ⟨fd, F⟩ := c.def_ 1 (d := d_is_count) rfl
  refine ⟨fd, F, fn_ok (k := 1) F sc_is_count fun cdv A outer s H E hr B => ?_⟩
  have hp : PassesOwn (model P w) _ _ _ := passes_of (X := cxOf (L2N.CX P w) P w K mg base N_is_count "is_count" (defScope s_is_count) (He.ga K "is_count") cdv A outer s H E) (K := fun e s'' => L2N.CX P w outer H s E e s'') rfl
  have tk := L2N.takes_of (X := cxOf (L2N.CX P w) P w K mg base N_is_count "is_count" (defScope s_is_count) (He.ga K "is_count") cdv A outer s H E) (E := E) rfl rfl rfl rfl
  have nd := sc_is_count.nd
  exact (qone (qret (qand (qcall O_is_whole (hr.mono (by decide)) rfl g_is_whole F_is_whole.kp b_is_whole (fun σ => L2N.passAt tk σ) (qa_cons (qvar (i := 0) rfl (.inl rfl)) qa_nil)) (qone_ (qcmp op_ge does_ge (qvar (i := 0) rfl (.inl rfl)) qint)))))
abbrev N_is_index : List Str := ["told", "many"]
theorem sc_is_index : FnScope N_is_index ["told", "many"] (defScope s_is_index) := ⟨rfl, rfl, rfl, by decide +kernel, rfl, by decide +kernel, by decide +kernel⟩
theorem ok_is_index (X0 : K.In h) (G : h.Ns mainGlobals mg) (c : He.SaysD fa fn K) (cx : exB (["ThreadError", "Unreadable"] : List Str) K = true) : ∃ fd, FunD K "is_index" "is_index" (defArgs s_is_index) (defBody s_is_index) (defScope s_is_index) [] [] (He.ga K "is_index") fd ∧ FnOk P w K mg base (L2N.CX P w) 3 (He.ga K "is_index") fd ["told", "many"] (spF K 2 m_is_index) := by
  obtain ⟨fd_is_count, F_is_count, O_is_count⟩ := ok_is_count (P := P) (w := w) (base := base) X0 G c cx
  have b_is_count : Binds K fd_is_count ["told"] [] := F_is_count.bindsN fun _ _ _ _ _ _ us hl => match us, hl with | [_], _ => rfl
  have g_is_count : mg "is_count" = some (.ref (He.ga K "is_count")) := He.glo_ok X0 G (c.fact 1 rfl)
  obtain ⟨fd, F⟩ := c.def_ 2 (d := d_is_index) rfl
  refine ⟨fd, F, fn_ok (k := 2) F sc_is_index fun cdv A outer s H E hr B => ?_⟩
  have hp : PassesOwn (model P w) _ _ _ := passes_of (X := cxOf (L2N.CX P w) P w K mg base N_is_index "is_index" (defScope s_is_index) (He.ga K "is_index") cdv A outer s H E) (K := fun e s'' => L2N.CX P w outer H s E e s'') rfl
  have tk := L2N.takes_of (X := cxOf (L2N.CX P w) P w K mg base N_is_index "is_index" (defScope s_is_index) (He.ga K "is_index") cdv A outer s H E) (E := E) rfl rfl rfl rfl
  have nd := sc_is_index.nd
  exact (qone (qret (qand (qcall O_is_count (hr.mono (by decide)) rfl g_is_count F_is_count.kp b_is_count (fun σ => L2N.passAt tk σ) (qa_cons (qvar (i := 0) rfl (.inl rfl)) qa_nil)) (qone_ (qcmp op_lt does_lt (qvar (i := 0) rfl (.inl rfl)) (qvar (i := 1) rfl (.inl rfl)))))))
abbrev N_is_posture : List Str := ["told", "way", "mirror"]
theorem sc_is_posture : FnScope N_is_posture ["told"] (defScope s_is_posture) := ⟨rfl, rfl, rfl, by decide +kernel, rfl, by decide +kernel, by decide +kernel⟩
theorem ok_is_posture (X0 : K.In h) (G : h.Ns mainGlobals mg) (c : He.SaysD fa fn K) (cx : exB (["ThreadError", "Unreadable"] : List Str) K = true) : ∃ fd, FunD K "is_posture" "is_posture" (defArgs s_is_posture) (defBody s_is_posture) (defScope s_is_posture) [] [] (He.ga K "is_posture") fd ∧ FnOk P w K mg base (L2N.CX P w) 4 (He.ga K "is_posture") fd ["told"] (spF K 1 m_is_posture) := by
  obtain ⟨fd_is_index, F_is_index, O_is_index⟩ := ok_is_index (P := P) (w := w) (base := base) X0 G c cx
  have b_is_index : Binds K fd_is_index ["told", "many"] [] := F_is_index.bindsN fun _ _ _ _ _ _ us hl => match us, hl with | [_, _], _ => rfl
  have g_is_index : mg "is_index" = some (.ref (He.ga K "is_index")) := He.glo_ok X0 G (c.fact 2 rfl)
  have f_isinstance : mg "isinstance" = none := He.free_ok X0 G (c.fact 47 rfl)
  have f_len : mg "len" = none := He.free_ok X0 G (c.fact 48 rfl)
  have f_tuple : mg "tuple" = none := He.free_ok X0 G (c.fact 54 rfl)
  obtain ⟨fd, F⟩ := c.def_ 3 (d := d_is_posture) rfl
  refine ⟨fd, F, fn_ok (k := 3) F sc_is_posture fun cdv A outer s H E hr B => ?_⟩
  have hp : PassesOwn (model P w) _ _ _ := passes_of (X := cxOf (L2N.CX P w) P w K mg base N_is_posture "is_posture" (defScope s_is_posture) (He.ga K "is_posture") cdv A outer s H E) (K := fun e s'' => L2N.CX P w outer H s E e s'') rfl
  have tk := L2N.takes_of (X := cxOf (L2N.CX P w) P w K mg base N_is_posture "is_posture" (defScope s_is_posture) (He.ga K "is_posture") cdv A outer s H E) (E := E) rfl rfl rfl rfl
  have nd := sc_is_posture.nd
  exact (qcons (qif (QW.t (qw_or (qtnot (qtval (qisi k_tuple rfl f_isinstance rfl f_tuple boot_tuple (qvar (i := 0) rfl (.inl rfl))))) (qw_or1 (qtcmp (op_neD hr.units) does_ne (qfnB call_len_seq does_len rfl f_len boot_len (qa_cons (qvar (i := 0) rfl (.inl rfl)) qa_nil)) qint)))) (qone (qret qbl)) qnil) (qcons (qasg (ws := [1, 2]) (qvar (i := 0) rfl (.inl rfl)) (qgt rfl (qgscons (qgn (i := 1) nd rfl (.inl rfl) (by decide)) (qgscons (qgn (i := 2) nd rfl (.inl rfl) (by decide)) qgsnil)))) (qone (qret (qand (qcall O_is_index (hr.mono (by decide)) rfl g_is_index F_is_index.kp b_is_index (fun σ => L2N.passAt tk σ) (qa_cons (qvar (i := 1) rfl (.inl rfl)) (qa_cons qint qa_nil))) (qone_ (qcall O_is_index (hr.mono (by decide)) rfl g_is_index F_is_index.kp b_is_index (fun σ => L2N.passAt tk σ) (qa_cons (qvar (i := 2) rfl (.inl rfl)) (qa_cons qint qa_nil)))))))))
abbrev N_is_turn : List Str := ["told"]
theorem sc_is_turn : FnScope N_is_turn ["told"] (defScope s_is_turn) := ⟨rfl, rfl, rfl, by decide +kernel, rfl, by decide +kernel, by decide +kernel⟩
theorem ok_is_turn (X0 : K.In h) (G : h.Ns mainGlobals mg) (c : He.SaysD fa fn K) (cx : exB (["ThreadError", "Unreadable"] : List Str) K = true) : ∃ fd, FunD K "is_turn" "is_turn" (defArgs s_is_turn) (defBody s_is_turn) (defScope s_is_turn) [] [] (He.ga K "is_turn") fd ∧ FnOk P w K mg base (L2N.CX P w) 5 (He.ga K "is_turn") fd ["told"] (spF K 1 m_is_turn) := by
  obtain ⟨fd_is_posture, F_is_posture, O_is_posture⟩ := ok_is_posture (P := P) (w := w) (base := base) X0 G c cx
  have b_is_posture : Binds K fd_is_posture ["told"] [] := F_is_posture.bindsN fun _ _ _ _ _ _ us hl => match us, hl with | [_], _ => rfl
  have g_is_posture : mg "is_posture" = some (.ref (He.ga K "is_posture")) := He.glo_ok X0 G (c.fact 3 rfl)
  obtain ⟨fd_is_index, F_is_index, O_is_index⟩ := ok_is_index (P := P) (w := w) (base := base) X0 G c cx
  have b_is_index : Binds K fd_is_index ["told", "many"] [] := F_is_index.bindsN fun _ _ _ _ _ _ us hl => match us, hl with | [_, _], _ => rfl
  have g_is_index : mg "is_index" = some (.ref (He.ga K "is_index")) := He.glo_ok X0 G (c.fact 2 rfl)
  have f_isinstance : mg "isinstance" = none := He.free_ok X0 G (c.fact 47 rfl)
  have f_len : mg "len" = none := He.free_ok X0 G (c.fact 48 rfl)
  have f_tuple : mg "tuple" = none := He.free_ok X0 G (c.fact 54 rfl)
  obtain ⟨fd, F⟩ := c.def_ 4 (d := d_is_turn) rfl
  refine ⟨fd, F, fn_ok (k := 4) F sc_is_turn fun cdv A outer s H E hr B => ?_⟩
  have hp : PassesOwn (model P w) _ _ _ := passes_of (X := cxOf (L2N.CX P w) P w K mg base N_is_turn "is_turn" (defScope s_is_turn) (He.ga K "is_turn") cdv A outer s H E) (K := fun e s'' => L2N.CX P w outer H s E e s'') rfl
  have tk := L2N.takes_of (X := cxOf (L2N.CX P w) P w K mg base N_is_turn "is_turn" (defScope s_is_turn) (He.ga K "is_turn") cdv A outer s H E) (E := E) rfl rfl rfl rfl
  have nd := sc_is_turn.nd
  exact (qcons (qif (QW.t (qw_or (qtnot (qtval (qisi k_tuple rfl f_isinstance rfl f_tuple boot_tuple (qvar (i := 0) rfl (.inl rfl))))) (qw_or1 (qtcmp (op_neD hr.units) does_ne (qfnB call_len_seq does_len rfl f_len boot_len (qa_cons (qvar (i := 0) rfl (.inl rfl)) qa_nil)) qint)))) (qone (qret qbl)) qnil) (qone (qret (qand (qcall O_is_posture (hr.mono (by decide)) rfl g_is_posture F_is_posture.kp b_is_posture (fun σ => L2N.passAt tk σ) (qa_cons (qsl (qvar (i := 0) rfl (.inl rfl)) qpn (qps qint)) qa_nil)) (qone_ (qcall O_is_index (hr.mono (by decide)) rfl g_is_index F_is_index.kp b_is_index (fun σ => L2N.passAt tk σ) (qa_cons (qix (qvar (i := 0) rfl (.inl rfl)) qint) (qa_cons qint qa_nil))))))))
abbrev N_is_box : List Str := ["told", "left", "low", "right", "high", "side"]
theorem sc_is_box : FnScope N_is_box ["told"] (defScope s_is_box) := ⟨rfl, rfl, rfl, by decide +kernel, rfl, by decide +kernel, by decide +kernel⟩
theorem ok_is_box (X0 : K.In h) (G : h.Ns mainGlobals mg) (c : He.SaysD fa fn K) (cx : exB (["ThreadError", "Unreadable"] : List Str) K = true) : ∃ fd, FunD K "is_box" "is_box" (defArgs s_is_box) (defBody s_is_box) (defScope s_is_box) [] [] (He.ga K "is_box") fd ∧ FnOk P w K mg base (L2N.CX P w) 3 (He.ga K "is_box") fd ["told"] (spF K 1 m_is_box) := by
  obtain ⟨fd_is_count, F_is_count, O_is_count⟩ := ok_is_count (P := P) (w := w) (base := base) X0 G c cx
  have b_is_count : Binds K fd_is_count ["told"] [] := F_is_count.bindsN fun _ _ _ _ _ _ us hl => match us, hl with | [_], _ => rfl
  have g_is_count : mg "is_count" = some (.ref (He.ga K "is_count")) := He.glo_ok X0 G (c.fact 1 rfl)
  have f_all : mg "all" = none := He.free_ok X0 G (c.fact 44 rfl)
  have f_isinstance : mg "isinstance" = none := He.free_ok X0 G (c.fact 47 rfl)
  have f_len : mg "len" = none := He.free_ok X0 G (c.fact 48 rfl)
  have f_tuple : mg "tuple" = none := He.free_ok X0 G (c.fact 54 rfl)
  obtain ⟨fd, F⟩ := c.def_ 5 (d := d_is_box) rfl
  refine ⟨fd, F, fn_ok (k := 2) F sc_is_box fun cdv A outer s H E hr B => ?_⟩
  have hp : PassesOwn (model P w) _ _ _ := passes_of (X := cxOf (L2N.CX P w) P w K mg base N_is_box "is_box" (defScope s_is_box) (He.ga K "is_box") cdv A outer s H E) (K := fun e s'' => L2N.CX P w outer H s E e s'') rfl
  have tk := L2N.takes_of (X := cxOf (L2N.CX P w) P w K mg base N_is_box "is_box" (defScope s_is_box) (He.ga K "is_box") cdv A outer s H E) (E := E) rfl rfl rfl rfl
  have nd := sc_is_box.nd
  exact (qcons (qif (QW.t (qw_or (qtnot (qtval (qisi k_tuple rfl f_isinstance rfl f_tuple boot_tuple (qvar (i := 0) rfl (.inl rfl))))) (qw_or1 (qtcmp (op_neD hr.units) does_ne (qfnB call_len_seq does_len rfl f_len boot_len (qa_cons (qvar (i := 0) rfl (.inl rfl)) qa_nil)) qint)))) (qone (qret qbl)) qnil) (qcons (qif (qtnot (qtval (qfnB (cr_all rfl) does_all rfl f_all boot_all (qa_cons (qcomp (vs := [5]) rfl nd (qiof (qvar (i := 0) rfl (.inl rfl))) (blkOk_by (own := [("side", 5)]) (N := N_is_box) (sc := defScope s_is_box) (by decide +kernel)) (gok_n (by decide)) rfl (fun _ _ _ _ _ B => (qgn (i := 5) nd rfl (.inl rfl) (by decide))) (fun _ _ _ _ _ => qtsnil) (fun _ _ _ _ _ => (qcall O_is_count (hr.mono (by decide)) rfl g_is_count F_is_count.kp b_is_count (fun σ => L2N.passAt takesN0 σ) (qa_cons (qvar (i := 5) rfl (.inl rfl)) qa_nil)))) qa_nil)))) (qone (qret qbl)) qnil) (qcons (qasg (ws := [1, 2, 3, 4]) (qvar (i := 0) rfl (.inl rfl)) (qgt rfl (qgscons (qgn (i := 1) nd rfl (.inl rfl) (by decide)) (qgscons (qgn (i := 2) nd rfl (.inl rfl) (by decide)) (qgscons (qgn (i := 3) nd rfl (.inl rfl) (by decide)) (qgscons (qgn (i := 4) nd rfl (.inl rfl) (by decide)) qgsnil)))))) (qone (qret (qand (qcmp op_lt does_lt (qvar (i := 1) rfl (.inl rfl)) (qvar (i := 3) rfl (.inl rfl))) (qone_ (qcmp op_lt does_lt (qvar (i := 2) rfl (.inl rfl)) (qvar (i := 4) rfl (.inl rfl))))))))))
abbrev N_told_integer : List Str := ["word"]
theorem sc_told_integer : FnScope N_told_integer ["word"] (defScope s_told_integer) := ⟨rfl, rfl, rfl, by decide +kernel, rfl, by decide +kernel, by decide +kernel⟩
theorem ok_told_integer (X0 : K.In h) (G : h.Ns mainGlobals mg) (c : He.SaysD fa fn K) (cx : exB (["ThreadError", "Unreadable"] : List Str) K = true) : ∃ fd, FunD K "told_integer" "told_integer" (defArgs s_told_integer) (defBody s_told_integer) (defScope s_told_integer) [] [] (He.ga K "told_integer") fd ∧ FnOk P w K mg base (L2N.CX P w) 1 (He.ga K "told_integer") fd ["word"] (spF K 1 m_told_integer) := by
  have i_MOST_DIGITS : ∃ t, mg "MOST_DIGITS" = some (.int 40 t) := He.int_ok X0 G (c.fact 55 rfl)
  have f_int : mg "int" = none := He.free_ok X0 G (c.fact 46 rfl)
  have f_len : mg "len" = none := He.free_ok X0 G (c.fact 48 rfl)
  obtain ⟨fd, F⟩ := c.def_ 6 (d := d_told_integer) rfl
  refine ⟨fd, F, fn_ok (k := 0) F sc_told_integer fun cdv A outer s H E hr B => ?_⟩
  have hp : PassesOwn (model P w) _ _ _ := passes_of (X := cxOf (L2N.CX P w) P w K mg base N_told_integer "told_integer" (defScope s_told_integer) (He.ga K "told_integer") cdv A outer s H E) (K := fun e s'' => L2N.CX P w outer H s E e s'') rfl
  have tk := L2N.takes_of (X := cxOf (L2N.CX P w) P w K mg base N_told_integer "told_integer" (defScope s_told_integer) (He.ga K "told_integer") cdv A outer s H E) (E := E) rfl rfl rfl rfl
  have nd := sc_told_integer.nd
  exact (qcons (qif (QW.t (qw_or (qtnot (qtval (qsm0 PySem.F.slot_str_isascii PySem.F.type_str_isascii mt_isascii sm_ascii (qvar (i := 0) rfl (.inl rfl))))) (qw_or (qtnot (qtval (qsm0 PySem.F.slot_str_isdigit PySem.F.type_str_isdigit mt_isdigit sm_digit (qvar (i := 0) rfl (.inl rfl))))) (qw_or1 (qtcmp op_gt does_gt (qfnB call_len_str does_lenS rfl f_len boot_len (qa_cons (qvar (i := 0) rfl (.inl rfl)) qa_nil)) (qgint rfl i_MOST_DIGITS)))))) (qone (qret qnon)) qnil) (qcons (qif (QW.t (qw_and (qtval (qsm1 PySem.F.slot_str_startswith PySem.F.type_str_startswith mt_startswith sm_starts (qvar (i := 0) rfl (.inl rfl)) qstr)) (qw_and1 (qtcmp (op_neD hr.units) does_ne (qvar (i := 0) rfl (.inl rfl)) qstr)))) (qone (qret qnon)) qnil) (qone (qret (qfnT call_int_str does_intT rfl f_int boot_int (qa_cons (qvar (i := 0) rfl (.inl rfl)) qa_nil))))))
abbrev N__told_integers : List Str := ["words", "many", "integers", "word"]
theorem sc__told_integers : FnScope N__told_integers ["words", "many"] (defScope s__told_integers) := ⟨rfl, rfl, rfl, by decide +kernel, rfl, by decide +kernel, by decide +kernel⟩
theorem ok__told_integers (X0 : K.In h) (G : h.Ns mainGlobals mg) (c : He.SaysD fa fn K) (cx : exB (["ThreadError", "Unreadable"] : List Str) K = true) : ∃ fd, FunD K "_told_integers" "_told_integers" (defArgs s__told_integers) (defBody s__told_integers) (defScope s__told_integers) [] [] (He.ga K "_told_integers") fd ∧ FnOk P w K mg base (L2N.CX P w) 2 (He.ga K "_told_integers") fd ["words", "many"] (spF K 2 m__told_integers) := by
  obtain ⟨fd_told_integer, F_told_integer, O_told_integer⟩ := ok_told_integer (P := P) (w := w) (base := base) X0 G c cx
  have b_told_integer : Binds K fd_told_integer ["word"] [] := F_told_integer.bindsN fun _ _ _ _ _ _ us hl => match us, hl with | [_], _ => rfl
  have g_told_integer : mg "told_integer" = some (.ref (He.ga K "told_integer")) := He.glo_ok X0 G (c.fact 6 rfl)
  have f_len : mg "len" = none := He.free_ok X0 G (c.fact 48 rfl)
  have f_tuple : mg "tuple" = none := He.free_ok X0 G (c.fact 54 rfl)
  obtain ⟨fd, F⟩ := c.def_ 7 (d := d__told_integers) rfl
  refine ⟨fd, F, fn_ok (k := 1) F sc__told_integers fun cdv A outer s H E hr B => ?_⟩
  have hp : PassesOwn (model P w) _ _ _ := passes_of (X := cxOf (L2N.CX P w) P w K mg base N__told_integers "_told_integers" (defScope s__told_integers) (He.ga K "_told_integers") cdv A outer s H E) (K := fun e s'' => L2N.CX P w outer H s E e s'') rfl
  have tk := L2N.takes_of (X := cxOf (L2N.CX P w) P w K mg base N__told_integers "_told_integers" (defScope s__told_integers) (He.ga K "_told_integers") cdv A outer s H E) (E := E) rfl rfl rfl rfl
  have nd := sc__told_integers.nd
  exact (qcons (qsetcomp (i := 2) (vs := [3]) rfl nd rfl rfl (sw_true rfl rfl rfl (by decide +kernel)) (qiof (qvar (i := 0) rfl (.inl rfl))) (blkOk_by (own := [("word", 3)]) (N := N__told_integers) (sc := defScope s__told_integers) (by decide +kernel)) (gok_n (by decide)) rfl (fun _ _ _ _ _ B => (qgn (i := 3) nd rfl (.inl rfl) (by decide))) (fun _ _ _ _ _ => qtsnil) (fun _ _ _ _ _ => (qcall O_told_integer (hr.mono (by decide)) rfl g_told_integer F_told_integer.kp b_told_integer (fun σ => L2N.passAt takesN0 σ) (qa_cons (qvar (i := 3) rfl (.inl rfl)) qa_nil)))) (qcons (qif (QW.t (qw_or (qtcmp (op_neD hr.units) does_ne (qfnB call_len_seq does_len rfl f_len boot_len (qa_cons (qvar (i := 2) rfl (.inl rfl)) qa_nil)) (qvar (i := 1) rfl (.inl rfl))) (qw_or1 (qtcmp (op_in2 (room65 hr)) does_in qnon (qvar (i := 2) rfl (.inl rfl)))))) (qone (qret qnon)) qnil) (qone (qret (qfnT call_tuple_of does_tuple rfl f_tuple boot_tuple (qa_cons (qvar (i := 2) rfl (.inl rfl)) qa_nil))))))
abbrev N__told_rows : List Str := ["line", "rows", "row"]
theorem sc__told_rows : FnScope N__told_rows ["line"] (defScope s__told_rows) := ⟨rfl, rfl, rfl, by decide +kernel, rfl, by decide +kernel, by decide +kernel⟩
theorem ok__told_rows (X0 : K.In h) (G : h.Ns mainGlobals mg) (c : He.SaysD fa fn K) (cx : exB (["ThreadError", "Unreadable"] : List Str) K = true) : ∃ fd, FunD K "_told_rows" "_told_rows" (defArgs s__told_rows) (defBody s__told_rows) (defScope s__told_rows) [] [] (He.ga K "_told_rows") fd ∧ FnOk P w K mg base (L2N.CX P w) 3 (He.ga K "_told_rows") fd ["line"] (spF K 1 m__told_rows) := by
  obtain ⟨fd__told_integers, F__told_integers, O__told_integers⟩ := ok__told_integers (P := P) (w := w) (base := base) X0 G c cx
  have b__told_integers : Binds K fd__told_integers ["words", "many"] [] := F__told_integers.bindsN fun _ _ _ _ _ _ us hl => match us, hl with | [_, _], _ => rfl
  have g__told_integers : mg "_told_integers" = some (.ref (He.ga K "_told_integers")) := He.glo_ok X0 G (c.fact 7 rfl)
  have f_tuple : mg "tuple" = none := He.free_ok X0 G (c.fact 54 rfl)
  obtain ⟨fd, F⟩ := c.def_ 8 (d := d__told_rows) rfl
  refine ⟨fd, F, fn_ok (k := 2) F sc__told_rows fun cdv A outer s H E hr B => ?_⟩
  have hp : PassesOwn (model P w) _ _ _ := passes_of (X := cxOf (L2N.CX P w) P w K mg base N__told_rows "_told_rows" (defScope s__told_rows) (He.ga K "_told_rows") cdv A outer s H E) (K := fun e s'' => L2N.CX P w outer H s E e s'') rfl
  have tk := L2N.takes_of (X := cxOf (L2N.CX P w) P w K mg base N__told_rows "_told_rows" (defScope s__told_rows) (He.ga K "_told_rows") cdv A outer s H E) (E := E) rfl rfl rfl rfl
  have nd := sc__told_rows.nd
  exact (qcons (qsetcomp (i := 1) (vs := [2]) rfl nd rfl rfl (sw_true rfl rfl rfl (by decide +kernel)) (qiof (qsm1 PySem.F.slot_str_split PySem.F.type_str_split mt_split sm_split (qvar (i := 0) rfl (.inl rfl)) qstr)) (blkOk_by (own := [("row", 2)]) (N := N__told_rows) (sc := defScope s__told_rows) (by decide +kernel)) (gok_n (by decide)) rfl (fun _ _ _ _ _ B => (qgn (i := 2) nd rfl (.inl rfl) (by decide))) (fun _ _ _ _ _ => qtsnil) (fun _ _ _ _ _ => (qcall O__told_integers (hr.mono (by decide)) rfl g__told_integers F__told_integers.kp b__told_integers (fun σ => L2N.passAt takesN0 σ) (qa_cons (qsm1 PySem.F.slot_str_split PySem.F.type_str_split mt_split sm_split (qvar (i := 2) rfl (.inl rfl)) qstr) (qa_cons qint qa_nil))))) (qcons (qif (qtcmp (op_in2 (room65 hr)) does_in qnon (qvar (i := 1) rfl (.inl rfl))) (qone (qret qnon)) qnil) (qone (qret (qfnT call_tuple_of does_tuple rfl f_tuple boot_tuple (qa_cons (qvar (i := 1) rfl (.inl rfl)) qa_nil))))))
abbrev N__alone : List Str := ["text", "told"]
theorem sc__alone : FnScope N__alone ["text", "told"] (defScope s__alone) := ⟨rfl, rfl, rfl, by decide +kernel, rfl, by decide +kernel, by decide +kernel⟩
theorem ok__alone (X0 : K.In h) (G : h.Ns mainGlobals mg) (c : He.SaysD fa fn K) (cx : exB (["ThreadError", "Unreadable"] : List Str) K = true) : ∃ fd, FunD K "_alone" "_alone" (defArgs s__alone) (defBody s__alone) (defScope s__alone) [] [] (He.ga K "_alone") fd ∧ FnOk P w K mg base (L2N.CX P w) 3 (He.ga K "_alone") fd ["text", "told"] (spF K 2 m__alone) := by
  have Ex : ExcOk K mg (["ThreadError", "Unreadable"] : List Str) := exB_ok X0 G cx
  obtain ⟨fd_ini, F_ini, O_ini⟩ := ok_ini (P := P) (w := w) (base := base) X0 G c
  have b_ini : Binds K fd_ini ["self", "value"] [] := F_ini.bindsN fun _ _ _ _ _ _ us hl => match us, hl with | [_, _], _ => rfl
  obtain ⟨fd, F⟩ := c.def_ 11 (d := d__alone) rfl
  refine ⟨fd, F, fn_ok (k := 2) F sc__alone fun cdv A outer s H E hr B => ?_⟩
  have hp : PassesOwn (model P w) _ _ _ := passes_of (X := cxOf (L2N.CX P w) P w K mg base N__alone "_alone" (defScope s__alone) (He.ga K "_alone") cdv A outer s H E) (K := fun e s'' => L2N.CX P w outer H s E e s'') rfl
  have tk := L2N.takes_of (X := cxOf (L2N.CX P w) P w K mg base N__alone "_alone" (defScope s__alone) (He.ga K "_alone") cdv A outer s H E) (E := E) rfl rfl rfl rfl
  have nd := sc__alone.nd
  exact (qcons (qif (qtcmp op_isN does_isN (qvar (i := 1) rfl (.inl rfl)) qnon) (qone (qraise rfl tk Ex (by decide +kernel) O_ini (hr.mono (by decide)) b_ini rfl qint)) qnil) (qcons (qif (qtcmp op_inS does_inS qstr (qvar (i := 0) rfl (.inl rfl))) (qone (qraise rfl tk Ex (by decide +kernel) O_ini (hr.mono (by decide)) b_ini rfl qint)) qnil) (qone (qret (qvar (i := 1) rfl (.inl rfl))))))
abbrev N__first_line : List Str := ["text"]
theorem sc__first_line : FnScope N__first_line ["text"] (defScope s__first_line) := ⟨rfl, rfl, rfl, by decide +kernel, rfl, by decide +kernel, by decide +kernel⟩
theorem ok__first_line (X0 : K.In h) (G : h.Ns mainGlobals mg) (c : He.SaysD fa fn K) (cx : exB (["ThreadError", "Unreadable"] : List Str) K = true) : ∃ fd, FunD K "_first_line" "_first_line" (defArgs s__first_line) (defBody s__first_line) (defScope s__first_line) [] [] (He.ga K "_first_line") fd ∧ FnOk P w K mg base (L2N.CX P w) 1 (He.ga K "_first_line") fd ["text"] (spF K 1 m__first_line) := by
  obtain ⟨fd, F⟩ := c.def_ 10 (d := d__first_line) rfl
  refine ⟨fd, F, fn_ok (k := 0) F sc__first_line fun cdv A outer s H E hr B => ?_⟩
  have hp : PassesOwn (model P w) _ _ _ := passes_of (X := cxOf (L2N.CX P w) P w K mg base N__first_line "_first_line" (defScope s__first_line) (He.ga K "_first_line") cdv A outer s H E) (K := fun e s'' => L2N.CX P w outer H s E e s'') rfl
  have tk := L2N.takes_of (X := cxOf (L2N.CX P w) P w K mg base N__first_line "_first_line" (defScope s__first_line) (He.ga K "_first_line") cdv A outer s H E) (E := E) rfl rfl rfl rfl
  have nd := sc__first_line.nd
  exact (qone (qret (qix (qsm1 PySem.F.slot_str_split PySem.F.type_str_split mt_split sm_split (qvar (i := 0) rfl (.inl rfl)) qstr) qint)))
abbrev N_read_cell : List Str := ["text"]
theorem sc_read_cell : FnScope N_read_cell ["text"] (defScope s_read_cell) := ⟨rfl, rfl, rfl, by decide +kernel, rfl, by decide +kernel, by decide +kernel⟩
theorem ok_read_cell (X0 : K.In h) (G : h.Ns mainGlobals mg) (c : He.SaysD fa fn K) (cx : exB (["ThreadError", "Unreadable"] : List Str) K = true) : ∃ fd, FunD K "read_cell" "read_cell" (defArgs s_read_cell) (defBody s_read_cell) (defScope s_read_cell) [] [] (He.ga K "read_cell") fd ∧ FnOk P w K mg base (L2N.CX P w) 4 (He.ga K "read_cell") fd ["text"] (spF K 1 m_read_cell) := by
  obtain ⟨fd__alone, F__alone, O__alone⟩ := ok__alone (P := P) (w := w) (base := base) X0 G c cx
  have b__alone : Binds K fd__alone ["text", "told"] [] := F__alone.bindsN fun _ _ _ _ _ _ us hl => match us, hl with | [_, _], _ => rfl
  have g__alone : mg "_alone" = some (.ref (He.ga K "_alone")) := He.glo_ok X0 G (c.fact 11 rfl)
  obtain ⟨fd__told_integers, F__told_integers, O__told_integers⟩ := ok__told_integers (P := P) (w := w) (base := base) X0 G c cx
  have b__told_integers : Binds K fd__told_integers ["words", "many"] [] := F__told_integers.bindsN fun _ _ _ _ _ _ us hl => match us, hl with | [_, _], _ => rfl
  have g__told_integers : mg "_told_integers" = some (.ref (He.ga K "_told_integers")) := He.glo_ok X0 G (c.fact 7 rfl)
  obtain ⟨fd__first_line, F__first_line, O__first_line⟩ := ok__first_line (P := P) (w := w) (base := base) X0 G c cx
  have b__first_line : Binds K fd__first_line ["text"] [] := F__first_line.bindsN fun _ _ _ _ _ _ us hl => match us, hl with | [_], _ => rfl
  have g__first_line : mg "_first_line" = some (.ref (He.ga K "_first_line")) := He.glo_ok X0 G (c.fact 10 rfl)
  obtain ⟨fd, F⟩ := c.def_ 9 (d := d_read_cell) rfl
  refine ⟨fd, F, fn_ok (k := 3) F sc_read_cell fun cdv A outer s H E hr B => ?_⟩
  have hp : PassesOwn (model P w) _ _ _ := passes_of (X := cxOf (L2N.CX P w) P w K mg base N_read_cell "read_cell" (defScope s_read_cell) (He.ga K "read_cell") cdv A outer s H E) (K := fun e s'' => L2N.CX P w outer H s E e s'') rfl
  have tk := L2N.takes_of (X := cxOf (L2N.CX P w) P w K mg base N_read_cell "read_cell" (defScope s_read_cell) (He.ga K "read_cell") cdv A outer s H E) (E := E) rfl rfl rfl rfl
  have nd := sc_read_cell.nd
  exact (qone (qret (qcall O__alone (hr.mono (by decide)) rfl g__alone F__alone.kp b__alone (fun σ => L2N.passAt tk σ) (qa_cons (qvar (i := 0) rfl (.inl rfl)) (qa_cons (qcall O__told_integers (hr.mono (by decide)) rfl g__told_integers F__told_integers.kp b__told_integers (fun σ => L2N.passAt tk σ) (qa_cons (qsm1 PySem.F.slot_str_split PySem.F.type_str_split mt_split sm_split (qcall O__first_line (hr.mono (by decide)) rfl g__first_line F__first_line.kp b__first_line (fun σ => L2N.passAt tk σ) (qa_cons (qvar (i := 0) rfl (.inl rfl)) qa_nil)) qstr) (qa_cons qint qa_nil))) qa_nil)))))
abbrev N__told_box : List Str := ["line", "box"]
theorem sc__told_box : FnScope N__told_box ["line"] (defScope s__told_box) := ⟨rfl, rfl, rfl, by decide +kernel, rfl, by decide +kernel, by decide +kernel⟩
theorem ok__told_box (X0 : K.In h) (G : h.Ns mainGlobals mg) (c : He.SaysD fa fn K) (cx : exB (["ThreadError", "Unreadable"] : List Str) K = true) : ∃ fd, FunD K "_told_box" "_told_box" (defArgs s__told_box) (defBody s__told_box) (defScope s__told_box) [] [] (He.ga K "_told_box") fd ∧ FnOk P w K mg base (L2N.CX P w) 4 (He.ga K "_told_box") fd ["line"] (spF K 1 m__told_box) := by
  obtain ⟨fd__told_integers, F__told_integers, O__told_integers⟩ := ok__told_integers (P := P) (w := w) (base := base) X0 G c cx
  have b__told_integers : Binds K fd__told_integers ["words", "many"] [] := F__told_integers.bindsN fun _ _ _ _ _ _ us hl => match us, hl with | [_, _], _ => rfl
  have g__told_integers : mg "_told_integers" = some (.ref (He.ga K "_told_integers")) := He.glo_ok X0 G (c.fact 7 rfl)
  obtain ⟨fd_is_box, F_is_box, O_is_box⟩ := ok_is_box (P := P) (w := w) (base := base) X0 G c cx
  have b_is_box : Binds K fd_is_box ["told"] [] := F_is_box.bindsN fun _ _ _ _ _ _ us hl => match us, hl with | [_], _ => rfl
  have g_is_box : mg "is_box" = some (.ref (He.ga K "is_box")) := He.glo_ok X0 G (c.fact 5 rfl)
  obtain ⟨fd, F⟩ := c.def_ 13 (d := d__told_box) rfl
  refine ⟨fd, F, fn_ok (k := 3) F sc__told_box fun cdv A outer s H E hr B => ?_⟩
  have hp : PassesOwn (model P w) _ _ _ := passes_of (X := cxOf (L2N.CX P w) P w K mg base N__told_box "_told_box" (defScope s__told_box) (He.ga K "_told_box") cdv A outer s H E) (K := fun e s'' => L2N.CX P w outer H s E e s'') rfl
  have tk := L2N.takes_of (X := cxOf (L2N.CX P w) P w K mg base N__told_box "_told_box" (defScope s__told_box) (He.ga K "_told_box") cdv A outer s H E) (E := E) rfl rfl rfl rfl
  have nd := sc__told_box.nd
  exact (qcons (qset (i := 1) nd rfl (.inl rfl) (qcall O__told_integers (hr.mono (by decide)) rfl g__told_integers F__told_integers.kp b__told_integers (fun σ => L2N.passAt tk σ) (qa_cons (qsm1 PySem.F.slot_str_split PySem.F.type_str_split mt_split sm_split (qvar (i := 0) rfl (.inl rfl)) qstr) (qa_cons qint qa_nil)))) (qcons (qif (qtnot (qtval (qcall O_is_box (hr.mono (by decide)) rfl g_is_box F_is_box.kp b_is_box (fun σ => L2N.passAt tk σ) (qa_cons (qvar (i := 1) rfl (.inl rfl)) qa_nil)))) (qone (qret qnon)) qnil) (qone (qret (qvar (i := 1) rfl (.inl rfl))))))
abbrev N_read_box : List Str := ["text"]
theorem sc_read_box : FnScope N_read_box ["text"] (defScope s_read_box) := ⟨rfl, rfl, rfl, by decide +kernel, rfl, by decide +kernel, by decide +kernel⟩
theorem ok_read_box (X0 : K.In h) (G : h.Ns mainGlobals mg) (c : He.SaysD fa fn K) (cx : exB (["ThreadError", "Unreadable"] : List Str) K = true) : ∃ fd, FunD K "read_box" "read_box" (defArgs s_read_box) (defBody s_read_box) (defScope s_read_box) [] [] (He.ga K "read_box") fd ∧ FnOk P w K mg base (L2N.CX P w) 5 (He.ga K "read_box") fd ["text"] (spF K 1 m_read_box) := by
  obtain ⟨fd__alone, F__alone, O__alone⟩ := ok__alone (P := P) (w := w) (base := base) X0 G c cx
  have b__alone : Binds K fd__alone ["text", "told"] [] := F__alone.bindsN fun _ _ _ _ _ _ us hl => match us, hl with | [_, _], _ => rfl
  have g__alone : mg "_alone" = some (.ref (He.ga K "_alone")) := He.glo_ok X0 G (c.fact 11 rfl)
  obtain ⟨fd__told_box, F__told_box, O__told_box⟩ := ok__told_box (P := P) (w := w) (base := base) X0 G c cx
  have b__told_box : Binds K fd__told_box ["line"] [] := F__told_box.bindsN fun _ _ _ _ _ _ us hl => match us, hl with | [_], _ => rfl
  have g__told_box : mg "_told_box" = some (.ref (He.ga K "_told_box")) := He.glo_ok X0 G (c.fact 13 rfl)
  obtain ⟨fd__first_line, F__first_line, O__first_line⟩ := ok__first_line (P := P) (w := w) (base := base) X0 G c cx
  have b__first_line : Binds K fd__first_line ["text"] [] := F__first_line.bindsN fun _ _ _ _ _ _ us hl => match us, hl with | [_], _ => rfl
  have g__first_line : mg "_first_line" = some (.ref (He.ga K "_first_line")) := He.glo_ok X0 G (c.fact 10 rfl)
  obtain ⟨fd, F⟩ := c.def_ 12 (d := d_read_box) rfl
  refine ⟨fd, F, fn_ok (k := 4) F sc_read_box fun cdv A outer s H E hr B => ?_⟩
  have hp : PassesOwn (model P w) _ _ _ := passes_of (X := cxOf (L2N.CX P w) P w K mg base N_read_box "read_box" (defScope s_read_box) (He.ga K "read_box") cdv A outer s H E) (K := fun e s'' => L2N.CX P w outer H s E e s'') rfl
  have tk := L2N.takes_of (X := cxOf (L2N.CX P w) P w K mg base N_read_box "read_box" (defScope s_read_box) (He.ga K "read_box") cdv A outer s H E) (E := E) rfl rfl rfl rfl
  have nd := sc_read_box.nd
  exact (qone (qret (qcall O__alone (hr.mono (by decide)) rfl g__alone F__alone.kp b__alone (fun σ => L2N.passAt tk σ) (qa_cons (qvar (i := 0) rfl (.inl rfl)) (qa_cons (qcall O__told_box (hr.mono (by decide)) rfl g__told_box F__told_box.kp b__told_box (fun σ => L2N.passAt tk σ) (qa_cons (qcall O__first_line (hr.mono (by decide)) rfl g__first_line F__first_line.kp b__first_line (fun σ => L2N.passAt tk σ) (qa_cons (qvar (i := 0) rfl (.inl rfl)) qa_nil)) qa_nil)) qa_nil)))))
abbrev N__told_spans : List Str := ["line", "spans", "ends", "span", "word", "k"]
theorem sc__told_spans : FnScope N__told_spans ["line"] (defScope s__told_spans) := ⟨rfl, rfl, rfl, by decide +kernel, rfl, by decide +kernel, by decide +kernel⟩
theorem ok__told_spans (X0 : K.In h) (G : h.Ns mainGlobals mg) (c : He.SaysD fa fn K) (cx : exB (["ThreadError", "Unreadable"] : List Str) K = true) : ∃ fd, FunD K "_told_spans" "_told_spans" (defArgs s__told_spans) (defBody s__told_spans) (defScope s__told_spans) [] [] (He.ga K "_told_spans") fd ∧ FnOk P w K mg base (L2N.CX P w) 3 (He.ga K "_told_spans") fd ["line"] (spF K 1 m__told_spans) := by
  obtain ⟨fd__told_integers, F__told_integers, O__told_integers⟩ := ok__told_integers (P := P) (w := w) (base := base) X0 G c cx
  have b__told_integers : Binds K fd__told_integers ["words", "many"] [] := F__told_integers.bindsN fun _ _ _ _ _ _ us hl => match us, hl with | [_, _], _ => rfl
  have g__told_integers : mg "_told_integers" = some (.ref (He.ga K "_told_integers")) := He.glo_ok X0 G (c.fact 7 rfl)
  have f_all : mg "all" = none := He.free_ok X0 G (c.fact 44 rfl)
  have f_len : mg "len" = none := He.free_ok X0 G (c.fact 48 rfl)
  have f_range : mg "range" = none := He.free_ok X0 G (c.fact 52 rfl)
  have f_tuple : mg "tuple" = none := He.free_ok X0 G (c.fact 54 rfl)
  obtain ⟨fd, F⟩ := c.def_ 15 (d := d__told_spans) rfl
  refine ⟨fd, F, fn_ok (k := 2) F sc__told_spans fun cdv A outer s H E hr B => ?_⟩
  have hp : PassesOwn (model P w) _ _ _ := passes_of (X := cxOf (L2N.CX P w) P w K mg base N__told_spans "_told_spans" (defScope s__told_spans) (He.ga K "_told_spans") cdv A outer s H E) (K := fun e s'' => L2N.CX P w outer H s E e s'') rfl
  have tk := L2N.takes_of (X := cxOf (L2N.CX P w) P w K mg base N__told_spans "_told_spans" (defScope s__told_spans) (He.ga K "_told_spans") cdv A outer s H E) (E := E) rfl rfl rfl rfl
  have nd := sc__told_spans.nd
  exact (qcons (qsetcomp (i := 1) (vs := [4]) rfl nd rfl rfl (sw_true rfl rfl rfl (by decide +kernel)) (qiof (qsm1 PySem.F.slot_str_split PySem.F.type_str_split mt_split sm_split (qvar (i := 0) rfl (.inl rfl)) qstr)) (blkOk_by (own := [("word", 4)]) (N := N__told_spans) (sc := defScope s__told_spans) (by decide +kernel)) (gok_n (by decide)) rfl (fun _ _ _ _ _ B => (qgn (i := 4) nd rfl (.inl rfl) (by decide))) (fun _ _ _ _ _ => qtsnil) (fun _ _ _ _ _ => (qcall O__told_integers (hr.mono (by decide)) rfl g__told_integers F__told_integers.kp b__told_integers (fun σ => L2N.passAt takesN0 σ) (qa_cons (qsm1 PySem.F.slot_str_split PySem.F.type_str_split mt_split sm_split (qvar (i := 4) rfl (.inl rfl)) qstr) (qa_cons qint qa_nil))))) (qcons (qif (qtcmp (op_in2 (room65 hr)) does_in qnon (qvar (i := 1) rfl (.inl rfl))) (qone (qret qnon)) qnil) (qcons (qset (i := 2) nd rfl (.inr rfl) (qlst qa_nil)) (qcons (qfor (ws := [3]) hp rfl (qiof (qvar (i := 1) rfl (.inl rfl))) (fun B => (qgn (i := 3) nd rfl (.inl rfl) (by decide))) (fun B => (qone (qexpr (qmeth2 (i := 2) PySem.F.slot_list_extend PySem.F.type_list_extend mt_extT does_extT rfl (.inr (.inl rfl)) (qa_cons (qvar (i := 3) rfl (.inl rfl)) qa_nil)))))) (qcons (qif (qtnot (qtval (qfnB (cr_all rfl) does_all rfl f_all boot_all (qa_cons (qcomp (vs := [5]) rfl nd (qir1 rfl f_range (qa_cons (qop op_sub does_sub (qfnB call_len_seq does_len rfl f_len boot_len (qa_cons (qvar (i := 2) rfl (.inr (.inl rfl))) qa_nil)) qint) qa_nil)) (blkOk_by (own := [("k", 5)]) (N := N__told_spans) (sc := defScope s__told_spans) (by decide +kernel)) (gok_n (by decide)) rfl (fun _ _ _ _ _ B => (qgn (i := 5) nd rfl (.inl rfl) (by decide))) (fun _ _ _ _ _ => qtsnil) (fun _ _ _ _ _ => (qcmp op_lt does_lt (qix (qvar (i := 2) rfl (.inr (.inl rfl))) (qvar (i := 5) rfl (.inl rfl))) (qix (qvar (i := 2) rfl (.inr (.inl rfl))) (qop op_add4 does_add (qvar (i := 5) rfl (.inl rfl)) qint))))) qa_nil)))) (qone (qret qnon)) qnil) (qone (qret (qfnT call_tuple_of does_tuple rfl f_tuple boot_tuple (qa_cons (qvar (i := 1) rfl (.inl rfl)) qa_nil)))))))))
abbrev N_read_spans : List Str := ["text"]
theorem sc_read_spans : FnScope N_read_spans ["text"] (defScope s_read_spans) := ⟨rfl, rfl, rfl, by decide +kernel, rfl, by decide +kernel, by decide +kernel⟩
theorem ok_read_spans (X0 : K.In h) (G : h.Ns mainGlobals mg) (c : He.SaysD fa fn K) (cx : exB (["ThreadError", "Unreadable"] : List Str) K = true) : ∃ fd, FunD K "read_spans" "read_spans" (defArgs s_read_spans) (defBody s_read_spans) (defScope s_read_spans) [] [] (He.ga K "read_spans") fd ∧ FnOk P w K mg base (L2N.CX P w) 4 (He.ga K "read_spans") fd ["text"] (spF K 1 m_read_spans) := by
  obtain ⟨fd__alone, F__alone, O__alone⟩ := ok__alone (P := P) (w := w) (base := base) X0 G c cx
  have b__alone : Binds K fd__alone ["text", "told"] [] := F__alone.bindsN fun _ _ _ _ _ _ us hl => match us, hl with | [_, _], _ => rfl
  have g__alone : mg "_alone" = some (.ref (He.ga K "_alone")) := He.glo_ok X0 G (c.fact 11 rfl)
  obtain ⟨fd__told_spans, F__told_spans, O__told_spans⟩ := ok__told_spans (P := P) (w := w) (base := base) X0 G c cx
  have b__told_spans : Binds K fd__told_spans ["line"] [] := F__told_spans.bindsN fun _ _ _ _ _ _ us hl => match us, hl with | [_], _ => rfl
  have g__told_spans : mg "_told_spans" = some (.ref (He.ga K "_told_spans")) := He.glo_ok X0 G (c.fact 15 rfl)
  obtain ⟨fd__first_line, F__first_line, O__first_line⟩ := ok__first_line (P := P) (w := w) (base := base) X0 G c cx
  have b__first_line : Binds K fd__first_line ["text"] [] := F__first_line.bindsN fun _ _ _ _ _ _ us hl => match us, hl with | [_], _ => rfl
  have g__first_line : mg "_first_line" = some (.ref (He.ga K "_first_line")) := He.glo_ok X0 G (c.fact 10 rfl)
  obtain ⟨fd, F⟩ := c.def_ 14 (d := d_read_spans) rfl
  refine ⟨fd, F, fn_ok (k := 3) F sc_read_spans fun cdv A outer s H E hr B => ?_⟩
  have hp : PassesOwn (model P w) _ _ _ := passes_of (X := cxOf (L2N.CX P w) P w K mg base N_read_spans "read_spans" (defScope s_read_spans) (He.ga K "read_spans") cdv A outer s H E) (K := fun e s'' => L2N.CX P w outer H s E e s'') rfl
  have tk := L2N.takes_of (X := cxOf (L2N.CX P w) P w K mg base N_read_spans "read_spans" (defScope s_read_spans) (He.ga K "read_spans") cdv A outer s H E) (E := E) rfl rfl rfl rfl
  have nd := sc_read_spans.nd
  exact (qone (qret (qcall O__alone (hr.mono (by decide)) rfl g__alone F__alone.kp b__alone (fun σ => L2N.passAt tk σ) (qa_cons (qvar (i := 0) rfl (.inl rfl)) (qa_cons (qcall O__told_spans (hr.mono (by decide)) rfl g__told_spans F__told_spans.kp b__told_spans (fun σ => L2N.passAt tk σ) (qa_cons (qcall O__first_line (hr.mono (by decide)) rfl g__first_line F__first_line.kp b__first_line (fun σ => L2N.passAt tk σ) (qa_cons (qvar (i := 0) rfl (.inl rfl)) qa_nil)) qa_nil)) qa_nil)))))
abbrev N__told_make : List Str := ["line", "make", "turn"]
theorem sc__told_make : FnScope N__told_make ["line"] (defScope s__told_make) := ⟨rfl, rfl, rfl, by decide +kernel, rfl, by decide +kernel, by decide +kernel⟩
theorem ok__told_make (X0 : K.In h) (G : h.Ns mainGlobals mg) (c : He.SaysD fa fn K) (cx : exB (["ThreadError", "Unreadable"] : List Str) K = true) : ∃ fd, FunD K "_told_make" "_told_make" (defArgs s__told_make) (defBody s__told_make) (defScope s__told_make) [] [] (He.ga K "_told_make") fd ∧ FnOk P w K mg base (L2N.CX P w) 6 (He.ga K "_told_make") fd ["line"] (spF K 1 m__told_make) := by
  obtain ⟨fd__told_rows, F__told_rows, O__told_rows⟩ := ok__told_rows (P := P) (w := w) (base := base) X0 G c cx
  have b__told_rows : Binds K fd__told_rows ["line"] [] := F__told_rows.bindsN fun _ _ _ _ _ _ us hl => match us, hl with | [_], _ => rfl
  have g__told_rows : mg "_told_rows" = some (.ref (He.ga K "_told_rows")) := He.glo_ok X0 G (c.fact 8 rfl)
  obtain ⟨fd_is_turn, F_is_turn, O_is_turn⟩ := ok_is_turn (P := P) (w := w) (base := base) X0 G c cx
  have b_is_turn : Binds K fd_is_turn ["told"] [] := F_is_turn.bindsN fun _ _ _ _ _ _ us hl => match us, hl with | [_], _ => rfl
  have g_is_turn : mg "is_turn" = some (.ref (He.ga K "is_turn")) := He.glo_ok X0 G (c.fact 4 rfl)
  have f_all : mg "all" = none := He.free_ok X0 G (c.fact 44 rfl)
  have f_len : mg "len" = none := He.free_ok X0 G (c.fact 48 rfl)
  obtain ⟨fd, F⟩ := c.def_ 17 (d := d__told_make) rfl
  refine ⟨fd, F, fn_ok (k := 5) F sc__told_make fun cdv A outer s H E hr B => ?_⟩
  have hp : PassesOwn (model P w) _ _ _ := passes_of (X := cxOf (L2N.CX P w) P w K mg base N__told_make "_told_make" (defScope s__told_make) (He.ga K "_told_make") cdv A outer s H E) (K := fun e s'' => L2N.CX P w outer H s E e s'') rfl
  have tk := L2N.takes_of (X := cxOf (L2N.CX P w) P w K mg base N__told_make "_told_make" (defScope s__told_make) (He.ga K "_told_make") cdv A outer s H E) (E := E) rfl rfl rfl rfl
  have nd := sc__told_make.nd
  exact (qcons (qset (i := 1) nd rfl (.inl rfl) (qcall O__told_rows (hr.mono (by decide)) rfl g__told_rows F__told_rows.kp b__told_rows (fun σ => L2N.passAt tk σ) (qa_cons (qvar (i := 0) rfl (.inl rfl)) qa_nil))) (qcons (qif (QW.t (qw_or (qtcmp op_isN does_isN (qvar (i := 1) rfl (.inl rfl)) qnon) (qw_or1 (qtcmp (op_notIn2 (room65 hr)) does_notIn (qfnB call_len_seq does_len rfl f_len boot_len (qa_cons (qvar (i := 1) rfl (.inl rfl)) qa_nil)) (qtup (qa_cons qint (qa_cons qint qa_nil))))))) (qone (qret qnon)) qnil) (qcons (qif (qtnot (qtval (qfnB (cr_all rfl) does_all rfl f_all boot_all (qa_cons (qcomp (vs := [2]) rfl nd (qiof (qvar (i := 1) rfl (.inl rfl))) (blkOk_by (own := [("turn", 2)]) (N := N__told_make) (sc := defScope s__told_make) (by decide +kernel)) (gok_n (by decide)) rfl (fun _ _ _ _ _ B => (qgn (i := 2) nd rfl (.inl rfl) (by decide))) (fun _ _ _ _ _ => qtsnil) (fun _ _ _ _ _ => (qcall O_is_turn (hr.mono (by decide)) rfl g_is_turn F_is_turn.kp b_is_turn (fun σ => L2N.passAt takesN0 σ) (qa_cons (qvar (i := 2) rfl (.inl rfl)) qa_nil)))) qa_nil)))) (qone (qret qnon)) qnil) (qone (qret (qvar (i := 1) rfl (.inl rfl)))))))
abbrev N_read_make : List Str := ["text"]
theorem sc_read_make : FnScope N_read_make ["text"] (defScope s_read_make) := ⟨rfl, rfl, rfl, by decide +kernel, rfl, by decide +kernel, by decide +kernel⟩
theorem ok_read_make (X0 : K.In h) (G : h.Ns mainGlobals mg) (c : He.SaysD fa fn K) (cx : exB (["ThreadError", "Unreadable"] : List Str) K = true) : ∃ fd, FunD K "read_make" "read_make" (defArgs s_read_make) (defBody s_read_make) (defScope s_read_make) [] [] (He.ga K "read_make") fd ∧ FnOk P w K mg base (L2N.CX P w) 7 (He.ga K "read_make") fd ["text"] (spF K 1 m_read_make) := by
  obtain ⟨fd__alone, F__alone, O__alone⟩ := ok__alone (P := P) (w := w) (base := base) X0 G c cx
  have b__alone : Binds K fd__alone ["text", "told"] [] := F__alone.bindsN fun _ _ _ _ _ _ us hl => match us, hl with | [_, _], _ => rfl
  have g__alone : mg "_alone" = some (.ref (He.ga K "_alone")) := He.glo_ok X0 G (c.fact 11 rfl)
  obtain ⟨fd__told_make, F__told_make, O__told_make⟩ := ok__told_make (P := P) (w := w) (base := base) X0 G c cx
  have b__told_make : Binds K fd__told_make ["line"] [] := F__told_make.bindsN fun _ _ _ _ _ _ us hl => match us, hl with | [_], _ => rfl
  have g__told_make : mg "_told_make" = some (.ref (He.ga K "_told_make")) := He.glo_ok X0 G (c.fact 17 rfl)
  obtain ⟨fd__first_line, F__first_line, O__first_line⟩ := ok__first_line (P := P) (w := w) (base := base) X0 G c cx
  have b__first_line : Binds K fd__first_line ["text"] [] := F__first_line.bindsN fun _ _ _ _ _ _ us hl => match us, hl with | [_], _ => rfl
  have g__first_line : mg "_first_line" = some (.ref (He.ga K "_first_line")) := He.glo_ok X0 G (c.fact 10 rfl)
  obtain ⟨fd, F⟩ := c.def_ 16 (d := d_read_make) rfl
  refine ⟨fd, F, fn_ok (k := 6) F sc_read_make fun cdv A outer s H E hr B => ?_⟩
  have hp : PassesOwn (model P w) _ _ _ := passes_of (X := cxOf (L2N.CX P w) P w K mg base N_read_make "read_make" (defScope s_read_make) (He.ga K "read_make") cdv A outer s H E) (K := fun e s'' => L2N.CX P w outer H s E e s'') rfl
  have tk := L2N.takes_of (X := cxOf (L2N.CX P w) P w K mg base N_read_make "read_make" (defScope s_read_make) (He.ga K "read_make") cdv A outer s H E) (E := E) rfl rfl rfl rfl
  have nd := sc_read_make.nd
  exact (qone (qret (qcall O__alone (hr.mono (by decide)) rfl g__alone F__alone.kp b__alone (fun σ => L2N.passAt tk σ) (qa_cons (qvar (i := 0) rfl (.inl rfl)) (qa_cons (qcall O__told_make (hr.mono (by decide)) rfl g__told_make F__told_make.kp b__told_make (fun σ => L2N.passAt tk σ) (qa_cons (qcall O__first_line (hr.mono (by decide)) rfl g__first_line F__first_line.kp b__first_line (fun σ => L2N.passAt tk σ) (qa_cons (qvar (i := 0) rfl (.inl rfl)) qa_nil)) qa_nil)) qa_nil)))))
abbrev N__law_well : List Str := ["script", "place", "cell"]
theorem sc__law_well : FnScope N__law_well ["script", "place"] (defScope s__law_well) := ⟨rfl, rfl, rfl, by decide +kernel, rfl, by decide +kernel, by decide +kernel⟩
theorem ok__law_well (X0 : K.In h) (G : h.Ns mainGlobals mg) (c : He.SaysD fa fn K) (cx : exB (["ThreadError", "Unreadable"] : List Str) K = true) : ∃ fd, FunD K "_law_well" "_law_well" (defArgs s__law_well) (defBody s__law_well) (defScope s__law_well) [] [] (He.ga K "_law_well") fd ∧ FnOk P w K mg base (L2N.CX P w) 1 (He.ga K "_law_well") fd ["script", "place"] (spF K 2 m__law_well) := by
  have f_abs : mg "abs" = none := He.free_ok X0 G (c.fact 43 rfl)
  have f_int : mg "int" = none := He.free_ok X0 G (c.fact 46 rfl)
  have f_len : mg "len" = none := He.free_ok X0 G (c.fact 48 rfl)
  have f_max : mg "max" = none := He.free_ok X0 G (c.fact 50 rfl)
  obtain ⟨fd, F⟩ := c.def_ 18 (d := d__law_well) rfl
  refine ⟨fd, F, fn_ok (k := 0) F sc__law_well fun cdv A outer s H E hr B => ?_⟩
  have hp : PassesOwn (model P w) _ _ _ := passes_of (X := cxOf (L2N.CX P w) P w K mg base N__law_well "_law_well" (defScope s__law_well) (He.ga K "_law_well") cdv A outer s H E) (K := fun e s'' => L2N.CX P w outer H s E e s'') rfl
  have tk := L2N.takes_of (X := cxOf (L2N.CX P w) P w K mg base N__law_well "_law_well" (defScope s__law_well) (He.ga K "_law_well") cdv A outer s H E) (E := E) rfl rfl rfl rfl
  have nd := sc__law_well.nd
  exact (qcons (qset (i := 2) nd rfl (.inl rfl) (qifx (qtcmp op_lt does_lt (qvar (i := 1) rfl (.inl rfl)) (qfnB call_len_seq does_len rfl f_len boot_len (qa_cons (qvar (i := 0) rfl (.inl rfl)) qa_nil))) (qfnT call_int1 does_int rfl f_int boot_int (qa_cons (qix (qvar (i := 0) rfl (.inl rfl)) (qvar (i := 1) rfl (.inl rfl))) qa_nil)) (qop op_add4 does_add (qop op_mulX does_mulX (qvar (i := 1) rfl (.inl rfl)) qint) (qop op_mulX does_mulX (qfnB call_len_seq does_len rfl f_len boot_len (qa_cons (qvar (i := 0) rfl (.inl rfl)) qa_nil)) qint)))) (qone (qret (qlst (qa_cons (qfnB (call_max2 rfl) does_max2 rfl f_max boot_max (qa_cons qint (qa_cons (qop op_sub does_sub (qfnB call_abs does_abs rfl f_abs boot_abs (qa_cons (qvar (i := 2) rfl (.inl rfl)) qa_nil)) (qop op_pow does_pow qint qint)) qa_nil))) (qa_cons (qop op_mod does_mod (qfnT call_int1 does_int rfl f_int boot_int (qa_cons (qop op_add4 does_add (qop op_add4 does_add (qop op_mulX does_mulX (qvar (i := 2) rfl (.inl rfl)) qint) (qop op_mulX does_mulX (qvar (i := 1) rfl (.inl rfl)) qint)) qint) qa_nil)) (qop op_add4 does_add (qop op_pow does_pow qint qint) qint)) (qa_cons qint qa_nil)))))))
abbrev N__law_draw : List Str := ["well", "many", "found", "mixed"]
theorem sc__law_draw : FnScope N__law_draw ["well", "many"] (defScope s__law_draw) := ⟨rfl, rfl, rfl, by decide +kernel, rfl, by decide +kernel, by decide +kernel⟩
theorem ok__law_draw (X0 : K.In h) (G : h.Ns mainGlobals mg) (c : He.SaysD fa fn K) (cx : exB (["ThreadError", "Unreadable"] : List Str) K = true) : ∃ fd, FunD K "_law_draw" "_law_draw" (defArgs s__law_draw) (defBody s__law_draw) (defScope s__law_draw) [] [] (He.ga K "_law_draw") fd ∧ FnOk P w K mg base (L2N.CX P w) 1 (He.ga K "_law_draw") fd ["well", "many"] (spF K 2 m__law_draw) := by
  have f_int : mg "int" = none := He.free_ok X0 G (c.fact 46 rfl)
  obtain ⟨fd, F⟩ := c.def_ 19 (d := d__law_draw) rfl
  refine ⟨fd, F, fn_ok (k := 0) F sc__law_draw fun cdv A outer s H E hr B => ?_⟩
  have hp : PassesOwn (model P w) _ _ _ := passes_of (X := cxOf (L2N.CX P w) P w K mg base N__law_draw "_law_draw" (defScope s__law_draw) (He.ga K "_law_draw") cdv A outer s H E) (K := fun e s'' => L2N.CX P w outer H s E e s'') rfl
  have tk := L2N.takes_of (X := cxOf (L2N.CX P w) P w K mg base N__law_draw "_law_draw" (defScope s__law_draw) (He.ga K "_law_draw") cdv A outer s H E) (E := E) rfl rfl rfl rfl
  have nd := sc__law_draw.nd
  exact (qcons (qif (qtcmp op_gt does_gt (qix (qvar (i := 0) rfl (.inl rfl)) qint) qint) (qcons (qset (i := 2) nd rfl (.inl rfl) (qop op_mod does_mod (qfnT call_int1 does_int rfl f_int boot_int (qa_cons (qix (qvar (i := 0) rfl (.inl rfl)) qint) qa_nil)) (qvar (i := 1) rfl (.inl rfl)))) (qcons (qsetix (i := 0) rfl (.inl rfl) qint (qop op_fdivW does_div (qix (qvar (i := 0) rfl (.inl rfl)) qint) (qvar (i := 1) rfl (.inl rfl)))) (qone (qret (qvar (i := 2) rfl (.inl rfl)))))) qnil) (qcons (qsetix (i := 0) rfl (.inl rfl) qint (qop op_add4 does_add (qix (qvar (i := 0) rfl (.inl rfl)) qint) qint)) (qcons (qset (i := 3) nd rfl (.inl rfl) (qop op_mod does_mod (qfnT call_int1 does_int rfl f_int boot_int (qa_cons (qop op_powW does_powW (qop op_add4 does_add (qix (qvar (i := 0) rfl (.inl rfl)) qint) (qop op_mulW does_mul qint (qix (qvar (i := 0) rfl (.inl rfl)) qint))) qint) qa_nil)) (qop op_add4 does_add (qop op_pow does_pow qint qint) qint))) (qcons (qset (i := 3) nd rfl (.inl rfl) (qop op_mod does_mod (qfnT call_int1 does_int rfl f_int boot_int (qa_cons (qop op_powW does_powW (qop op_add4 does_add (qvar (i := 3) rfl (.inl rfl)) qint) qint) qa_nil)) (qop op_add4 does_add (qop op_pow does_pow qint qint) qint))) (qone (qret (qop op_mod does_mod (qfnT call_int1 does_int rfl f_int boot_int (qa_cons (qop op_fdivW does_div (qvar (i := 3) rfl (.inl rfl)) (qop op_pow does_pow qint qint)) qa_nil)) (qvar (i := 1) rfl (.inl rfl)))))))))
abbrev N__law_same : List Str := ["told", "due", "k"]
theorem sc__law_same : FnScope N__law_same ["told", "due"] (defScope s__law_same) := ⟨rfl, rfl, rfl, by decide +kernel, rfl, by decide +kernel, by decide +kernel⟩
theorem ok__law_same (X0 : K.In h) (G : h.Ns mainGlobals mg) (c : He.SaysD fa fn K) (cx : exB (["ThreadError", "Unreadable"] : List Str) K = true) : ∀ fuel : Nat, ∃ fd, FunD K "_law_same" "_law_same" (defArgs s__law_same) (defBody s__law_same) (defScope s__law_same) [] [] (He.ga K "_law_same") fd ∧ FnOk P w K mg base (L2N.CX P w) (1 + fuel) (He.ga K "_law_same") fd ["told", "due"] (spF K 2 (m__law_same fuel)) := by
  have f_all : mg "all" = none := He.free_ok X0 G (c.fact 44 rfl)
  have f_bool : mg "bool" = none := He.free_ok X0 G (c.fact 45 rfl)
  have f_int : mg "int" = none := He.free_ok X0 G (c.fact 46 rfl)
  have f_isinstance : mg "isinstance" = none := He.free_ok X0 G (c.fact 47 rfl)
  have f_len : mg "len" = none := He.free_ok X0 G (c.fact 48 rfl)
  have f_list : mg "list" = none := He.free_ok X0 G (c.fact 49 rfl)
  have f_range : mg "range" = none := He.free_ok X0 G (c.fact 52 rfl)
  have f_str : mg "str" = none := He.free_ok X0 G (c.fact 53 rfl)
  have f_tuple : mg "tuple" = none := He.free_ok X0 G (c.fact 54 rfl)
  have g__law_same : mg "_law_same" = some (.ref (He.ga K "_law_same")) := He.glo_ok X0 G (c.fact 20 rfl)
  obtain ⟨fd, F__law_same⟩ := c.def_ 20 (d := d__law_same) rfl
  have F__law_same : FunD K "_law_same" "_law_same" (defArgs s__law_same) (defBody s__law_same) (defScope s__law_same) [] [] (He.ga K "_law_same") fd := F__law_same
  have b__law_same : Binds K fd ["told", "due"] [] := F__law_same.bindsN fun _ _ _ _ _ _ us hl => match us, hl with | [_, _], _ => rfl
  intro fuel
  refine ⟨fd, F__law_same, ?_⟩
  induction fuel with
  | zero =>
    refine (fn_ok (k := 0) (b := sNever) F__law_same sc__law_same fun cdv A outer s H E hr B => qnevers).imp fun vs H Q E z => ⟨z.1, ?_⟩
    obtain ⟨e, F, R, z⟩ := z.2
    exact z.elim
  | succ fuel ih =>
    have O__law_same := ih
    refine fn_ok (k := 1 + fuel) F__law_same sc__law_same fun cdv A outer s H E hr B => ?_
    have hp : PassesOwn (model P w) _ _ _ := passes_of (X := cxOf (L2N.CX P w) P w K mg base N__law_same "_law_same" (defScope s__law_same) (He.ga K "_law_same") cdv A outer s H E) (K := fun e s'' => L2N.CX P w outer H s E e s'') rfl
    have tk := L2N.takes_of (X := cxOf (L2N.CX P w) P w K mg base N__law_same "_law_same" (defScope s__law_same) (He.ga K "_law_same") cdv A outer s H E) (E := E) rfl rfl rfl rfl
    have nd := sc__law_same.nd
    exact (qcons (qif (qtcmp op_isN does_isN (qvar (i := 1) rfl (.inr (.inl rfl))) qnon) (qone (qret (qcmp op_isN does_isN (qvar (i := 0) rfl (.inr (.inl rfl))) qnon))) qnil) (qcons (qif (qtval (qisi k_bool rfl f_isinstance rfl f_bool boot_bool (qvar (i := 1) rfl (.inr (.inl rfl))))) (qone (qret (qifx (qtval (qvar (i := 1) rfl (.inr (.inl rfl)))) (qcmp op_isN does_isN (qvar (i := 0) rfl (.inr (.inl rfl))) qbl) (qcmp op_isN does_isN (qvar (i := 0) rfl (.inr (.inl rfl))) qbl)))) qnil) (qcons (qif (qtval (qisi k_int rfl f_isinstance rfl f_int boot_int (qvar (i := 1) rfl (.inr (.inl rfl))))) (qone (qret (qand (qisi k_int rfl f_isinstance rfl f_int boot_int (qvar (i := 0) rfl (.inr (.inl rfl)))) (qand (qnot (qisi k_bool rfl f_isinstance rfl f_bool boot_bool (qvar (i := 0) rfl (.inr (.inl rfl))))) (qone_ (qcmp (op_eqD hr.units) does_eq (qvar (i := 0) rfl (.inr (.inl rfl))) (qvar (i := 1) rfl (.inr (.inl rfl))))))))) qnil) (qcons (qif (qtval (qisi k_str rfl f_isinstance rfl f_str boot_str (qvar (i := 1) rfl (.inr (.inl rfl))))) (qone (qret (qand (qisi k_str rfl f_isinstance rfl f_str boot_str (qvar (i := 0) rfl (.inr (.inl rfl)))) (qone_ (qcmp (op_eqD hr.units) does_eq (qvar (i := 0) rfl (.inr (.inl rfl))) (qvar (i := 1) rfl (.inr (.inl rfl)))))))) qnil) (qcons (qif (QW.t (qw_or (qtcmp (op_neD hr.units) does_ne (qisi k_tuple rfl f_isinstance rfl f_tuple boot_tuple (qvar (i := 1) rfl (.inr (.inl rfl)))) (qisi k_tuple rfl f_isinstance rfl f_tuple boot_tuple (qvar (i := 0) rfl (.inr (.inl rfl))))) (qw_or1 (qtcmp (op_neD hr.units) does_ne (qisi k_list rfl f_isinstance rfl f_list boot_list (qvar (i := 1) rfl (.inr (.inl rfl)))) (qisi k_list rfl f_isinstance rfl f_list boot_list (qvar (i := 0) rfl (.inr (.inl rfl)))))))) (qone (qret qbl)) qnil) (qone (qret (qand (qcmp (op_eqD hr.units) does_eq (qfnB call_len_seq does_len rfl f_len boot_len (qa_cons (qvar (i := 0) rfl (.inr (.inl rfl))) qa_nil)) (qfnB call_len_seq does_len rfl f_len boot_len (qa_cons (qvar (i := 1) rfl (.inr (.inl rfl))) qa_nil))) (qone_ (qfnB (cr_all rfl) does_all rfl f_all boot_all (qa_cons (qcomp (vs := [2]) rfl nd (qir1 rfl f_range (qa_cons (qfnB call_len_seq does_len rfl f_len boot_len (qa_cons (qvar (i := 1) rfl (.inr (.inl rfl))) qa_nil)) qa_nil)) (blkOk_by (own := [("k", 2)]) (N := N__law_same) (sc := defScope s__law_same) (by decide +kernel)) (gok_n (by decide)) rfl (fun _ _ _ _ _ B => (qgn (i := 2) nd rfl (.inl rfl) (by decide))) (fun _ _ _ _ _ => qtsnil) (fun _ _ _ _ _ => (qcall O__law_same (hr.mono (by omega)) rfl g__law_same F__law_same.kp b__law_same (fun σ => L2N.passAt takesN0 σ) (qa_cons (qix (qvar (i := 0) rfl (.inr (.inl rfl))) (qvar (i := 2) rfl (.inl rfl))) (qa_cons (qix (qvar (i := 1) rfl (.inr (.inl rfl))) (qvar (i := 2) rfl (.inl rfl))) qa_nil))))) qa_nil)))))))))))
abbrev N__law_power : List Str := ["b", "d", "found", "turn"]
theorem sc__law_power : FnScope N__law_power ["b", "d"] (defScope s__law_power) := ⟨rfl, rfl, rfl, by decide +kernel, rfl, by decide +kernel, by decide +kernel⟩
theorem ok__law_power (X0 : K.In h) (G : h.Ns mainGlobals mg) (c : He.SaysD fa fn K) (cx : exB (["ThreadError", "Unreadable"] : List Str) K = true) : ∃ fd, FunD K "_law_power" "_law_power" (defArgs s__law_power) (defBody s__law_power) (defScope s__law_power) [] [] (He.ga K "_law_power") fd ∧ FnOk P w K mg base (L2N.CX P w) 1 (He.ga K "_law_power") fd ["b", "d"] (spF K 2 m__law_power) := by
  have f_range : mg "range" = none := He.free_ok X0 G (c.fact 52 rfl)
  obtain ⟨fd, F⟩ := c.def_ 21 (d := d__law_power) rfl
  refine ⟨fd, F, fn_ok (k := 0) F sc__law_power fun cdv A outer s H E hr B => ?_⟩
  have hp : PassesOwn (model P w) _ _ _ := passes_of (X := cxOf (L2N.CX P w) P w K mg base N__law_power "_law_power" (defScope s__law_power) (He.ga K "_law_power") cdv A outer s H E) (K := fun e s'' => L2N.CX P w outer H s E e s'') rfl
  have tk := L2N.takes_of (X := cxOf (L2N.CX P w) P w K mg base N__law_power "_law_power" (defScope s__law_power) (He.ga K "_law_power") cdv A outer s H E) (E := E) rfl rfl rfl rfl
  have nd := sc__law_power.nd
  exact (qcons (qset (i := 2) nd rfl (.inl rfl) qint) (qcons (qfor (ws := [3]) hp rfl (qir1 rfl f_range (qa_cons (qvar (i := 1) rfl (.inl rfl)) qa_nil)) (fun B => (qgn (i := 3) nd rfl (.inl rfl) (by decide))) (fun B => (qone (qset (i := 2) nd rfl (.inl rfl) (qop op_mulW does_mul (qvar (i := 2) rfl (.inl rfl)) (qvar (i := 0) rfl (.inl rfl))))))) (qone (qret (qvar (i := 2) rfl (.inl rfl))))))
abbrev N__law_integer : List Str := ["well", "digits", "kind"]
theorem sc__law_integer : FnScope N__law_integer ["well", "digits"] (defScope s__law_integer) := ⟨rfl, rfl, rfl, by decide +kernel, rfl, by decide +kernel, by decide +kernel⟩
theorem ok__law_integer (X0 : K.In h) (G : h.Ns mainGlobals mg) (c : He.SaysD fa fn K) (cx : exB (["ThreadError", "Unreadable"] : List Str) K = true) : ∃ fd, FunD K "_law_integer" "_law_integer" (defArgs s__law_integer) (defBody s__law_integer) (defScope s__law_integer) [] [] (He.ga K "_law_integer") fd ∧ FnOk P w K mg base (L2N.CX P w) 2 (He.ga K "_law_integer") fd ["well", "digits"] (spF K 2 m__law_integer) := by
  obtain ⟨fd__law_draw, F__law_draw, O__law_draw⟩ := ok__law_draw (P := P) (w := w) (base := base) X0 G c cx
  have b__law_draw : Binds K fd__law_draw ["well", "many"] [] := F__law_draw.bindsN fun _ _ _ _ _ _ us hl => match us, hl with | [_, _], _ => rfl
  have g__law_draw : mg "_law_draw" = some (.ref (He.ga K "_law_draw")) := He.glo_ok X0 G (c.fact 19 rfl)
  obtain ⟨fd__law_power, F__law_power, O__law_power⟩ := ok__law_power (P := P) (w := w) (base := base) X0 G c cx
  have b__law_power : Binds K fd__law_power ["b", "d"] [] := F__law_power.bindsN fun _ _ _ _ _ _ us hl => match us, hl with | [_, _], _ => rfl
  have g__law_power : mg "_law_power" = some (.ref (He.ga K "_law_power")) := He.glo_ok X0 G (c.fact 21 rfl)
  obtain ⟨fd, F⟩ := c.def_ 22 (d := d__law_integer) rfl
  refine ⟨fd, F, fn_ok (k := 1) F sc__law_integer fun cdv A outer s H E hr B => ?_⟩
  have hp : PassesOwn (model P w) _ _ _ := passes_of (X := cxOf (L2N.CX P w) P w K mg base N__law_integer "_law_integer" (defScope s__law_integer) (He.ga K "_law_integer") cdv A outer s H E) (K := fun e s'' => L2N.CX P w outer H s E e s'') rfl
  have tk := L2N.takes_of (X := cxOf (L2N.CX P w) P w K mg base N__law_integer "_law_integer" (defScope s__law_integer) (He.ga K "_law_integer") cdv A outer s H E) (E := E) rfl rfl rfl rfl
  have nd := sc__law_integer.nd
  exact (qcons (qset (i := 2) nd rfl (.inl rfl) (qcall O__law_draw (hr.mono (by decide)) rfl g__law_draw F__law_draw.kp b__law_draw (fun σ => L2N.passAt tk σ) (qa_cons (qvar (i := 0) rfl (.inl rfl)) (qa_cons qint qa_nil)))) (qcons (qif (qtcmp op_lt does_lt (qvar (i := 2) rfl (.inl rfl)) qint) (qone (qret (qcall O__law_draw (hr.mono (by decide)) rfl g__law_draw F__law_draw.kp b__law_draw (fun σ => L2N.passAt tk σ) (qa_cons (qvar (i := 0) rfl (.inl rfl)) (qa_cons (qix (qlst (qa_cons qint (qa_cons qint (qa_cons qint qa_nil)))) (qvar (i := 2) rfl (.inl rfl))) qa_nil))))) qnil) (qcons (qif (qtcmp (op_eqD hr.units) does_eq (qvar (i := 2) rfl (.inl rfl)) qint) (qone (qret (qop op_sub does_sub (qop op_sub does_sub (qcall O__law_power (hr.mono (by decide)) rfl g__law_power F__law_power.kp b__law_power (fun σ => L2N.passAt tk σ) (qa_cons qint (qa_cons (qvar (i := 1) rfl (.inl rfl)) qa_nil))) qint) (qcall O__law_draw (hr.mono (by decide)) rfl g__law_draw F__law_draw.kp b__law_draw (fun σ => L2N.passAt tk σ) (qa_cons (qvar (i := 0) rfl (.inl rfl)) (qa_cons qint qa_nil)))))) qnil) (qone (qret (qcall O__law_draw (hr.mono (by decide)) rfl g__law_draw F__law_draw.kp b__law_draw (fun σ => L2N.passAt tk σ) (qa_cons (qvar (i := 0) rfl (.inl rfl)) (qa_cons (qcall O__law_power (hr.mono (by decide)) rfl g__law_power F__law_power.kp b__law_power (fun σ => L2N.passAt tk σ) (qa_cons qint (qa_cons (qop op_add4 does_add qint (qcall O__law_draw (hr.mono (by decide)) rfl g__law_draw F__law_draw.kp b__law_draw (fun σ => L2N.passAt tk σ) (qa_cons (qvar (i := 0) rfl (.inl rfl)) (qa_cons (qvar (i := 1) rfl (.inl rfl)) qa_nil)))) qa_nil))) qa_nil))))))))
abbrev N__law_above : List Str := ["well", "low", "digits", "far"]
theorem sc__law_above : FnScope N__law_above ["well", "low", "digits"] (defScope s__law_above) := ⟨rfl, rfl, rfl, by decide +kernel, rfl, by decide +kernel, by decide +kernel⟩
theorem ok__law_above (X0 : K.In h) (G : h.Ns mainGlobals mg) (c : He.SaysD fa fn K) (cx : exB (["ThreadError", "Unreadable"] : List Str) K = true) : ∃ fd, FunD K "_law_above" "_law_above" (defArgs s__law_above) (defBody s__law_above) (defScope s__law_above) [] [] (He.ga K "_law_above") fd ∧ FnOk P w K mg base (L2N.CX P w) 3 (He.ga K "_law_above") fd ["well", "low", "digits"] (spF K 3 m__law_above) := by
  obtain ⟨fd__law_draw, F__law_draw, O__law_draw⟩ := ok__law_draw (P := P) (w := w) (base := base) X0 G c cx
  have b__law_draw : Binds K fd__law_draw ["well", "many"] [] := F__law_draw.bindsN fun _ _ _ _ _ _ us hl => match us, hl with | [_, _], _ => rfl
  have g__law_draw : mg "_law_draw" = some (.ref (He.ga K "_law_draw")) := He.glo_ok X0 G (c.fact 19 rfl)
  obtain ⟨fd__law_integer, F__law_integer, O__law_integer⟩ := ok__law_integer (P := P) (w := w) (base := base) X0 G c cx
  have b__law_integer : Binds K fd__law_integer ["well", "digits"] [] := F__law_integer.bindsN fun _ _ _ _ _ _ us hl => match us, hl with | [_, _], _ => rfl
  have g__law_integer : mg "_law_integer" = some (.ref (He.ga K "_law_integer")) := He.glo_ok X0 G (c.fact 22 rfl)
  obtain ⟨fd, F⟩ := c.def_ 23 (d := d__law_above) rfl
  refine ⟨fd, F, fn_ok (k := 2) F sc__law_above fun cdv A outer s H E hr B => ?_⟩
  have hp : PassesOwn (model P w) _ _ _ := passes_of (X := cxOf (L2N.CX P w) P w K mg base N__law_above "_law_above" (defScope s__law_above) (He.ga K "_law_above") cdv A outer s H E) (K := fun e s'' => L2N.CX P w outer H s E e s'') rfl
  have tk := L2N.takes_of (X := cxOf (L2N.CX P w) P w K mg base N__law_above "_law_above" (defScope s__law_above) (He.ga K "_law_above") cdv A outer s H E) (E := E) rfl rfl rfl rfl
  have nd := sc__law_above.nd
  exact (qcons (qset (i := 3) nd rfl (.inl rfl) (qix (qlst (qa_cons qint (qa_cons (qop op_add4 does_add qint (qcall O__law_draw (hr.mono (by decide)) rfl g__law_draw F__law_draw.kp b__law_draw (fun σ => L2N.passAt tk σ) (qa_cons (qvar (i := 0) rfl (.inl rfl)) (qa_cons qint qa_nil)))) (qa_cons (qop op_add4 does_add qint (qcall O__law_integer (hr.mono (by decide)) rfl g__law_integer F__law_integer.kp b__law_integer (fun σ => L2N.passAt tk σ) (qa_cons (qvar (i := 0) rfl (.inl rfl)) (qa_cons (qvar (i := 2) rfl (.inl rfl)) qa_nil)))) qa_nil)))) (qcall O__law_draw (hr.mono (by decide)) rfl g__law_draw F__law_draw.kp b__law_draw (fun σ => L2N.passAt tk σ) (qa_cons (qvar (i := 0) rfl (.inl rfl)) (qa_cons qint qa_nil))))) (qone (qret (qop op_add4 does_add (qvar (i := 1) rfl (.inl rfl)) (qvar (i := 3) rfl (.inl rfl))))))
abbrev N__law_said : List Str := ["some", "number"]
theorem sc__law_said : FnScope N__law_said ["some"] (defScope s__law_said) := ⟨rfl, rfl, rfl, by decide +kernel, rfl, by decide +kernel, by decide +kernel⟩
theorem ok__law_said (X0 : K.In h) (G : h.Ns mainGlobals mg) (c : He.SaysD fa fn K) (cx : exB (["ThreadError", "Unreadable"] : List Str) K = true) : ∃ fd, FunD K "_law_said" "_law_said" (defArgs s__law_said) (defBody s__law_said) (defScope s__law_said) [] [] (He.ga K "_law_said") fd ∧ FnOk P w K mg base (L2N.CX P w) 1 (He.ga K "_law_said") fd ["some"] (spF K 1 m__law_said) := by
  have f_str : mg "str" = none := He.free_ok X0 G (c.fact 53 rfl)
  obtain ⟨fd, F⟩ := c.def_ 25 (d := d__law_said) rfl
  refine ⟨fd, F, fn_ok (k := 0) F sc__law_said fun cdv A outer s H E hr B => ?_⟩
  have hp : PassesOwn (model P w) _ _ _ := passes_of (X := cxOf (L2N.CX P w) P w K mg base N__law_said "_law_said" (defScope s__law_said) (He.ga K "_law_said") cdv A outer s H E) (K := fun e s'' => L2N.CX P w outer H s E e s'') rfl
  have tk := L2N.takes_of (X := cxOf (L2N.CX P w) P w K mg base N__law_said "_law_said" (defScope s__law_said) (He.ga K "_law_said") cdv A outer s H E) (E := E) rfl rfl rfl rfl
  have nd := sc__law_said.nd
  exact (qone (qret (qjoin qstr (qcomp (vs := [1]) rfl nd (qiof (qvar (i := 0) rfl (.inl rfl))) (blkOk_by (own := [("number", 1)]) (N := N__law_said) (sc := defScope s__law_said) (by decide +kernel)) (gok_n (by decide)) rfl (fun _ _ _ _ _ B => (qgn (i := 1) nd rfl (.inl rfl) (by decide))) (fun _ _ _ _ _ => qtsnil) (fun _ _ _ _ _ => (qfnT call_str_int does_str rfl f_str boot_str (qa_cons (qvar (i := 1) rfl (.inl rfl)) qa_nil)))))))
abbrev N__law_said_parts : List Str := ["parts", "part"]
theorem sc__law_said_parts : FnScope N__law_said_parts ["parts"] (defScope s__law_said_parts) := ⟨rfl, rfl, rfl, by decide +kernel, rfl, by decide +kernel, by decide +kernel⟩
theorem ok__law_said_parts (X0 : K.In h) (G : h.Ns mainGlobals mg) (c : He.SaysD fa fn K) (cx : exB (["ThreadError", "Unreadable"] : List Str) K = true) : ∃ fd, FunD K "_law_said_parts" "_law_said_parts" (defArgs s__law_said_parts) (defBody s__law_said_parts) (defScope s__law_said_parts) [] [] (He.ga K "_law_said_parts") fd ∧ FnOk P w K mg base (L2N.CX P w) 2 (He.ga K "_law_said_parts") fd ["parts"] (spF K 1 m__law_said_parts) := by
  obtain ⟨fd__law_said, F__law_said, O__law_said⟩ := ok__law_said (P := P) (w := w) (base := base) X0 G c cx
  have b__law_said : Binds K fd__law_said ["some"] [] := F__law_said.bindsN fun _ _ _ _ _ _ us hl => match us, hl with | [_], _ => rfl
  have g__law_said : mg "_law_said" = some (.ref (He.ga K "_law_said")) := He.glo_ok X0 G (c.fact 25 rfl)
  obtain ⟨fd, F⟩ := c.def_ 26 (d := d__law_said_parts) rfl
  refine ⟨fd, F, fn_ok (k := 1) F sc__law_said_parts fun cdv A outer s H E hr B => ?_⟩
  have hp : PassesOwn (model P w) _ _ _ := passes_of (X := cxOf (L2N.CX P w) P w K mg base N__law_said_parts "_law_said_parts" (defScope s__law_said_parts) (He.ga K "_law_said_parts") cdv A outer s H E) (K := fun e s'' => L2N.CX P w outer H s E e s'') rfl
  have tk := L2N.takes_of (X := cxOf (L2N.CX P w) P w K mg base N__law_said_parts "_law_said_parts" (defScope s__law_said_parts) (He.ga K "_law_said_parts") cdv A outer s H E) (E := E) rfl rfl rfl rfl
  have nd := sc__law_said_parts.nd
  exact (qone (qret (qjoin qstr (qcomp (vs := [1]) rfl nd (qiof (qvar (i := 0) rfl (.inl rfl))) (blkOk_by (own := [("part", 1)]) (N := N__law_said_parts) (sc := defScope s__law_said_parts) (by decide +kernel)) (gok_n (by decide)) rfl (fun _ _ _ _ _ B => (qgn (i := 1) nd rfl (.inl rfl) (by decide))) (fun _ _ _ _ _ => qtsnil) (fun _ _ _ _ _ => (qcall O__law_said (hr.mono (by decide)) rfl g__law_said F__law_said.kp b__law_said (fun σ => L2N.passAt takesN0 σ) (qa_cons (qvar (i := 1) rfl (.inl rfl)) qa_nil)))))))
abbrev N__law_door : List Str := ["well", "door", "digits", "most", "thing", "low", "found", "at", "turn", "behind", "many", "first"]
theorem sc__law_door : FnScope N__law_door ["well", "door", "digits", "most"] (defScope s__law_door) := ⟨rfl, rfl, rfl, by decide +kernel, rfl, by decide +kernel, by decide +kernel⟩
theorem ok__law_door (X0 : K.In h) (G : h.Ns mainGlobals mg) (c : He.SaysD fa fn K) (cx : exB (["ThreadError", "Unreadable"] : List Str) K = true) : ∃ fd, FunD K "_law_door" "_law_door" (defArgs s__law_door) (defBody s__law_door) (defScope s__law_door) [] [] (He.ga K "_law_door") fd ∧ FnOk P w K mg base (L2N.CX P w) 4 (He.ga K "_law_door") fd ["well", "door", "digits", "most"] (spF K 4 m__law_door) := by
  obtain ⟨fd__law_draw, F__law_draw, O__law_draw⟩ := ok__law_draw (P := P) (w := w) (base := base) X0 G c cx
  have b__law_draw : Binds K fd__law_draw ["well", "many"] [] := F__law_draw.bindsN fun _ _ _ _ _ _ us hl => match us, hl with | [_, _], _ => rfl
  have g__law_draw : mg "_law_draw" = some (.ref (He.ga K "_law_draw")) := He.glo_ok X0 G (c.fact 19 rfl)
  obtain ⟨fd__law_said_parts, F__law_said_parts, O__law_said_parts⟩ := ok__law_said_parts (P := P) (w := w) (base := base) X0 G c cx
  have b__law_said_parts : Binds K fd__law_said_parts ["parts"] [] := F__law_said_parts.bindsN fun _ _ _ _ _ _ us hl => match us, hl with | [_], _ => rfl
  have g__law_said_parts : mg "_law_said_parts" = some (.ref (He.ga K "_law_said_parts")) := He.glo_ok X0 G (c.fact 26 rfl)
  obtain ⟨fd__law_integer, F__law_integer, O__law_integer⟩ := ok__law_integer (P := P) (w := w) (base := base) X0 G c cx
  have b__law_integer : Binds K fd__law_integer ["well", "digits"] [] := F__law_integer.bindsN fun _ _ _ _ _ _ us hl => match us, hl with | [_, _], _ => rfl
  have g__law_integer : mg "_law_integer" = some (.ref (He.ga K "_law_integer")) := He.glo_ok X0 G (c.fact 22 rfl)
  obtain ⟨fd__law_said, F__law_said, O__law_said⟩ := ok__law_said (P := P) (w := w) (base := base) X0 G c cx
  have b__law_said : Binds K fd__law_said ["some"] [] := F__law_said.bindsN fun _ _ _ _ _ _ us hl => match us, hl with | [_], _ => rfl
  have g__law_said : mg "_law_said" = some (.ref (He.ga K "_law_said")) := He.glo_ok X0 G (c.fact 25 rfl)
  obtain ⟨fd__law_above, F__law_above, O__law_above⟩ := ok__law_above (P := P) (w := w) (base := base) X0 G c cx
  have b__law_above : Binds K fd__law_above ["well", "low", "digits"] [] := F__law_above.bindsN fun _ _ _ _ _ _ us hl => match us, hl with | [_, _, _], _ => rfl
  have g__law_above : mg "_law_above" = some (.ref (He.ga K "_law_above")) := He.glo_ok X0 G (c.fact 23 rfl)
  have f_range : mg "range" = none := He.free_ok X0 G (c.fact 52 rfl)
  have f_str : mg "str" = none := He.free_ok X0 G (c.fact 53 rfl)
  have f_tuple : mg "tuple" = none := He.free_ok X0 G (c.fact 54 rfl)
  obtain ⟨fd, F⟩ := c.def_ 24 (d := d__law_door) rfl
  refine ⟨fd, F, fn_ok (k := 3) F sc__law_door fun cdv A outer s H E hr B => ?_⟩
  have hp : PassesOwn (model P w) _ _ _ := passes_of (X := cxOf (L2N.CX P w) P w K mg base N__law_door "_law_door" (defScope s__law_door) (He.ga K "_law_door") cdv A outer s H E) (K := fun e s'' => L2N.CX P w outer H s E e s'') rfl
  have tk := L2N.takes_of (X := cxOf (L2N.CX P w) P w K mg base N__law_door "_law_door" (defScope s__law_door) (He.ga K "_law_door") cdv A outer s H E) (E := E) rfl rfl rfl rfl
  have nd := sc__law_door.nd
  exact (qcons (qif (qtcmp (op_eqD hr.units) does_eq (qvar (i := 1) rfl (.inl rfl)) qint) (qcons (qset (i := 4) nd rfl (.inl rfl) (qtup (qa_cons (qcall O__law_integer (hr.mono (by decide)) rfl g__law_integer F__law_integer.kp b__law_integer (fun σ => L2N.passAt tk σ) (qa_cons (qvar (i := 0) rfl (.inr (.inl rfl))) (qa_cons (qvar (i := 2) rfl (.inl rfl)) qa_nil))) (qa_cons (qcall O__law_integer (hr.mono (by decide)) rfl g__law_integer F__law_integer.kp b__law_integer (fun σ => L2N.passAt tk σ) (qa_cons (qvar (i := 0) rfl (.inr (.inl rfl))) (qa_cons (qvar (i := 2) rfl (.inl rfl)) qa_nil))) qa_nil)))) (qone (qret (qtup (qa_cons (qvar (i := 4) rfl (.inl rfl)) (qa_cons (qcall O__law_said (hr.mono (by decide)) rfl g__law_said F__law_said.kp b__law_said (fun σ => L2N.passAt tk σ) (qa_cons (qvar (i := 4) rfl (.inl rfl)) qa_nil)) qa_nil)))))) qnil) (qcons (qif (qtcmp (op_eqD hr.units) does_eq (qvar (i := 1) rfl (.inl rfl)) qint) (qcons (qset (i := 5) nd rfl (.inl rfl) (qtup (qa_cons (qcall O__law_integer (hr.mono (by decide)) rfl g__law_integer F__law_integer.kp b__law_integer (fun σ => L2N.passAt tk σ) (qa_cons (qvar (i := 0) rfl (.inr (.inl rfl))) (qa_cons (qop op_sub does_sub (qvar (i := 2) rfl (.inl rfl)) qint) qa_nil))) (qa_cons (qcall O__law_integer (hr.mono (by decide)) rfl g__law_integer F__law_integer.kp b__law_integer (fun σ => L2N.passAt tk σ) (qa_cons (qvar (i := 0) rfl (.inr (.inl rfl))) (qa_cons (qop op_sub does_sub (qvar (i := 2) rfl (.inl rfl)) qint) qa_nil))) qa_nil)))) (qcons (qset (i := 4) nd rfl (.inl rfl) (qop op_add4 does_add (qvar (i := 5) rfl (.inl rfl)) (qtup (qa_cons (qcall O__law_above (hr.mono (by decide)) rfl g__law_above F__law_above.kp b__law_above (fun σ => L2N.passAt tk σ) (qa_cons (qvar (i := 0) rfl (.inr (.inl rfl))) (qa_cons (qix (qvar (i := 5) rfl (.inl rfl)) qint) (qa_cons (qop op_sub does_sub (qvar (i := 2) rfl (.inl rfl)) qint) qa_nil)))) (qa_cons (qcall O__law_above (hr.mono (by decide)) rfl g__law_above F__law_above.kp b__law_above (fun σ => L2N.passAt tk σ) (qa_cons (qvar (i := 0) rfl (.inr (.inl rfl))) (qa_cons (qix (qvar (i := 5) rfl (.inl rfl)) qint) (qa_cons (qop op_sub does_sub (qvar (i := 2) rfl (.inl rfl)) qint) qa_nil)))) qa_nil))))) (qone (qret (qtup (qa_cons (qvar (i := 4) rfl (.inl rfl)) (qa_cons (qcall O__law_said (hr.mono (by decide)) rfl g__law_said F__law_said.kp b__law_said (fun σ => L2N.passAt tk σ) (qa_cons (qvar (i := 4) rfl (.inl rfl)) qa_nil)) qa_nil))))))) qnil) (qcons (qif (qtcmp (op_eqD hr.units) does_eq (qvar (i := 1) rfl (.inl rfl)) qint) (qcons (qpar2 (i := 6) (j := 7) rfl nd rfl rfl (by decide) rfl rfl (qa_cons (qlst qa_nil) (qa_cons (qcall O__law_integer (hr.mono (by decide)) rfl g__law_integer F__law_integer.kp b__law_integer (fun σ => L2N.passAt tk σ) (qa_cons (qvar (i := 0) rfl (.inr (.inl rfl))) (qa_cons (qix (qlst (qa_cons qint (qa_cons (qop op_sub does_sub (qvar (i := 2) rfl (.inl rfl)) qint) qa_nil))) (qcall O__law_draw (hr.mono (by decide)) rfl g__law_draw F__law_draw.kp b__law_draw (fun σ => L2N.passAt tk σ) (qa_cons (qvar (i := 0) rfl (.inr (.inl rfl))) (qa_cons qint qa_nil)))) qa_nil))) qa_nil)) (by rfl)) (qcons (qfor (ws := [8]) hp rfl (qir1 rfl f_range (qa_cons (qop op_add4 does_add qint (qcall O__law_draw (hr.mono (by decide)) rfl g__law_draw F__law_draw.kp b__law_draw (fun σ => L2N.passAt tk σ) (qa_cons (qvar (i := 0) rfl (.inr (.inl rfl))) (qa_cons (qix (qlst (qa_cons qint (qa_cons qint (qa_cons (qvar (i := 3) rfl (.inl rfl)) (qa_cons qint qa_nil))))) (qcall O__law_draw (hr.mono (by decide)) rfl g__law_draw F__law_draw.kp b__law_draw (fun σ => L2N.passAt tk σ) (qa_cons (qvar (i := 0) rfl (.inr (.inl rfl))) (qa_cons qint qa_nil)))) qa_nil)))) qa_nil)) (fun B => (qgn (i := 8) nd rfl (.inl rfl) (by decide))) (fun B => (qcons (qset (i := 9) nd rfl (.inl rfl) (qcall O__law_above (hr.mono (by decide)) rfl g__law_above F__law_above.kp b__law_above (fun σ => L2N.passAt tk σ) (qa_cons (qvar (i := 0) rfl (.inr (.inl rfl))) (qa_cons (qvar (i := 7) rfl (.inl rfl)) (qa_cons (qix (qlst (qa_cons qint (qa_cons qint (qa_cons (qop op_sub does_sub (qvar (i := 2) rfl (.inl rfl)) qint) qa_nil)))) (qcall O__law_draw (hr.mono (by decide)) rfl g__law_draw F__law_draw.kp b__law_draw (fun σ => L2N.passAt tk σ) (qa_cons (qvar (i := 0) rfl (.inr (.inl rfl))) (qa_cons qint qa_nil)))) qa_nil))))) (qcons (qexpr (qmeth (i := 6) PySem.F.slot_list_append PySem.F.type_list_append mt_append does_append rfl (.inl rfl) (qa_cons (qtup (qa_cons (qvar (i := 7) rfl (.inl rfl)) (qa_cons (qvar (i := 9) rfl (.inl rfl)) qa_nil))) qa_nil))) (qone (qset (i := 7) nd rfl (.inl rfl) (qcall O__law_above (hr.mono (by decide)) rfl g__law_above F__law_above.kp b__law_above (fun σ => L2N.passAt tk σ) (qa_cons (qvar (i := 0) rfl (.inr (.inl rfl))) (qa_cons (qvar (i := 9) rfl (.inl rfl)) (qa_cons (qix (qlst (qa_cons qint (qa_cons qint (qa_cons (qop op_sub does_sub (qvar (i := 2) rfl (.inl rfl)) qint) qa_nil)))) (qcall O__law_draw (hr.mono (by decide)) rfl g__law_draw F__law_draw.kp b__law_draw (fun σ => L2N.passAt tk σ) (qa_cons (qvar (i := 0) rfl (.inr (.inl rfl))) (qa_cons qint qa_nil)))) qa_nil)))))))))) (qcons (qset (i := 4) nd rfl (.inl rfl) (qfnT call_tuple_of does_tuple rfl f_tuple boot_tuple (qa_cons (qvar (i := 6) rfl (.inl rfl)) qa_nil))) (qone (qret (qtup (qa_cons (qvar (i := 4) rfl (.inl rfl)) (qa_cons (qjoin qstr (qcomp (vs := [11, 9]) rfl nd (qiof (qvar (i := 4) rfl (.inl rfl))) (blkOk_by (own := [("first", 11), ("behind", 9)]) (N := N__law_door) (sc := defScope s__law_door) (by decide +kernel)) (gok_t (gsok_cons (gok_n (by decide)) (gsok_cons (gok_n (by decide)) gsok_nil))) rfl (fun _ _ _ _ _ B => (qgt rfl (qgscons (qgn (i := 11) nd rfl (.inl rfl) (by decide)) (qgscons (qgn (i := 9) nd rfl (.inl rfl) (by decide)) qgsnil)))) (fun _ _ _ _ _ => qtsnil) (fun _ _ _ _ _ => (qop op_add4 does_add (qop op_add4 does_add (qfnT call_str_int does_str rfl f_str boot_str (qa_cons (qvar (i := 11) rfl (.inl rfl)) qa_nil)) qstr) (qfnT call_str_int does_str rfl f_str boot_str (qa_cons (qvar (i := 9) rfl (.inl rfl)) qa_nil)))))) qa_nil)))))))) qnil) (qcons (qset (i := 10) nd rfl (.inl rfl) (qix (qlst (qa_cons qint (qa_cons qint (qa_cons qint (qa_cons qint (qa_cons qint (qa_cons qint (qa_cons qint (qa_cons qint (qa_cons qint (qa_cons qint qa_nil))))))))))) (qcall O__law_draw (hr.mono (by decide)) rfl g__law_draw F__law_draw.kp b__law_draw (fun σ => L2N.passAt tk σ) (qa_cons (qvar (i := 0) rfl (.inr (.inl rfl))) (qa_cons qint qa_nil))))) (qcons (qset (i := 4) nd rfl (.inl rfl) (qfnT call_tuple_of does_tuple rfl f_tuple boot_tuple (qa_cons (qcomp (vs := [8]) rfl nd (qir1 rfl f_range (qa_cons (qvar (i := 10) rfl (.inl rfl)) qa_nil)) (blkOk_by (own := [("turn", 8)]) (N := N__law_door) (sc := defScope s__law_door) (by decide +kernel)) (gok_n (by decide)) rfl (fun _ _ _ _ _ B => (qgn (i := 8) nd rfl (.inl rfl) (by decide))) (fun _ _ _ _ _ => qtsnil) (fun _ _ _ _ _ => (qtup (qa_cons (qcall O__law_draw (hr.mono (by decide)) rfl g__law_draw F__law_draw.kp b__law_draw (fun σ => L2N.passAt takesN0 σ) (qa_cons (qvar (i := 0) rfl (.inr (.inl rfl))) (qa_cons qint qa_nil))) (qa_cons (qcall O__law_draw (hr.mono (by decide)) rfl g__law_draw F__law_draw.kp b__law_draw (fun σ => L2N.passAt takesN0 σ) (qa_cons (qvar (i := 0) rfl (.inr (.inl rfl))) (qa_cons qint qa_nil))) (qa_cons (qcall O__law_draw (hr.mono (by decide)) rfl g__law_draw F__law_draw.kp b__law_draw (fun σ => L2N.passAt takesN0 σ) (qa_cons (qvar (i := 0) rfl (.inr (.inl rfl))) (qa_cons qint qa_nil))) qa_nil)))))) qa_nil))) (qone (qret (qtup (qa_cons (qvar (i := 4) rfl (.inl rfl)) (qa_cons (qcall O__law_said_parts (hr.mono (by decide)) rfl g__law_said_parts F__law_said_parts.kp b__law_said_parts (fun σ => L2N.passAt tk σ) (qa_cons (qvar (i := 4) rfl (.inl rfl)) qa_nil)) qa_nil))))))))))
abbrev N__law_sign : List Str := ["well", "signs"]
theorem sc__law_sign : FnScope N__law_sign ["well"] (defScope s__law_sign) := ⟨rfl, rfl, rfl, by decide +kernel, rfl, by decide +kernel, by decide +kernel⟩
theorem ok__law_sign (X0 : K.In h) (G : h.Ns mainGlobals mg) (c : He.SaysD fa fn K) (cx : exB (["ThreadError", "Unreadable"] : List Str) K = true) : ∃ fd, FunD K "_law_sign" "_law_sign" (defArgs s__law_sign) (defBody s__law_sign) (defScope s__law_sign) [] [] (He.ga K "_law_sign") fd ∧ FnOk P w K mg base (L2N.CX P w) 2 (He.ga K "_law_sign") fd ["well"] (spF K 1 m__law_sign) := by
  obtain ⟨fd__law_draw, F__law_draw, O__law_draw⟩ := ok__law_draw (P := P) (w := w) (base := base) X0 G c cx
  have b__law_draw : Binds K fd__law_draw ["well", "many"] [] := F__law_draw.bindsN fun _ _ _ _ _ _ us hl => match us, hl with | [_, _], _ => rfl
  have g__law_draw : mg "_law_draw" = some (.ref (He.ga K "_law_draw")) := He.glo_ok X0 G (c.fact 19 rfl)
  have f_len : mg "len" = none := He.free_ok X0 G (c.fact 48 rfl)
  obtain ⟨fd, F⟩ := c.def_ 27 (d := d__law_sign) rfl
  refine ⟨fd, F, fn_ok (k := 1) F sc__law_sign fun cdv A outer s H E hr B => ?_⟩
  have hp : PassesOwn (model P w) _ _ _ := passes_of (X := cxOf (L2N.CX P w) P w K mg base N__law_sign "_law_sign" (defScope s__law_sign) (He.ga K "_law_sign") cdv A outer s H E) (K := fun e s'' => L2N.CX P w outer H s E e s'') rfl
  have tk := L2N.takes_of (X := cxOf (L2N.CX P w) P w K mg base N__law_sign "_law_sign" (defScope s__law_sign) (He.ga K "_law_sign") cdv A outer s H E) (E := E) rfl rfl rfl rfl
  have nd := sc__law_sign.nd
  exact (qcons (qset (i := 1) nd rfl (.inl rfl) qstr) (qcons (qset (i := 1) nd rfl (.inl rfl) (qix (qlst (qa_cons (qop op_add4 does_add (qvar (i := 1) rfl (.inl rfl)) qstr) (qa_cons qstr qa_nil))) (qcall O__law_draw (hr.mono (by decide)) rfl g__law_draw F__law_draw.kp b__law_draw (fun σ => L2N.passAt tk σ) (qa_cons (qvar (i := 0) rfl (.inl rfl)) (qa_cons qint qa_nil))))) (qone (qret (qixS (qvar (i := 1) rfl (.inl rfl)) (qcall O__law_draw (hr.mono (by decide)) rfl g__law_draw F__law_draw.kp b__law_draw (fun σ => L2N.passAt tk σ) (qa_cons (qvar (i := 0) rfl (.inl rfl)) (qa_cons (qfnB call_len_str does_lenS rfl f_len boot_len (qa_cons (qvar (i := 1) rfl (.inl rfl)) qa_nil)) qa_nil))))))))
abbrev N__law_odd_word : List Str := ["well", "words"]
theorem sc__law_odd_word : FnScope N__law_odd_word ["well"] (defScope s__law_odd_word) := ⟨rfl, rfl, rfl, by decide +kernel, rfl, by decide +kernel, by decide +kernel⟩
theorem ok__law_odd_word (X0 : K.In h) (G : h.Ns mainGlobals mg) (c : He.SaysD fa fn K) (cx : exB (["ThreadError", "Unreadable"] : List Str) K = true) : ∃ fd, FunD K "_law_odd_word" "_law_odd_word" (defArgs s__law_odd_word) (defBody s__law_odd_word) (defScope s__law_odd_word) [] [] (He.ga K "_law_odd_word") fd ∧ FnOk P w K mg base (L2N.CX P w) 2 (He.ga K "_law_odd_word") fd ["well"] (spF K 1 m__law_odd_word) := by
  obtain ⟨fd__law_draw, F__law_draw, O__law_draw⟩ := ok__law_draw (P := P) (w := w) (base := base) X0 G c cx
  have b__law_draw : Binds K fd__law_draw ["well", "many"] [] := F__law_draw.bindsN fun _ _ _ _ _ _ us hl => match us, hl with | [_, _], _ => rfl
  have g__law_draw : mg "_law_draw" = some (.ref (He.ga K "_law_draw")) := He.glo_ok X0 G (c.fact 19 rfl)
  have f_len : mg "len" = none := He.free_ok X0 G (c.fact 48 rfl)
  obtain ⟨fd, F⟩ := c.def_ 28 (d := d__law_odd_word) rfl
  refine ⟨fd, F, fn_ok (k := 1) F sc__law_odd_word fun cdv A outer s H E hr B => ?_⟩
  have hp : PassesOwn (model P w) _ _ _ := passes_of (X := cxOf (L2N.CX P w) P w K mg base N__law_odd_word "_law_odd_word" (defScope s__law_odd_word) (He.ga K "_law_odd_word") cdv A outer s H E) (K := fun e s'' => L2N.CX P w outer H s E e s'') rfl
  have tk := L2N.takes_of (X := cxOf (L2N.CX P w) P w K mg base N__law_odd_word "_law_odd_word" (defScope s__law_odd_word) (He.ga K "_law_odd_word") cdv A outer s H E) (E := E) rfl rfl rfl rfl
  have nd := sc__law_odd_word.nd
  exact (qcons (qset (i := 1) nd rfl (.inl rfl) (qlst (qa_cons qstr (qa_cons qstr (qa_cons qstr (qa_cons qstr (qa_cons qstr (qa_cons qstr (qa_cons qstr (qa_cons qstr (qa_cons qstr (qa_cons qstr (qa_cons qstr (qa_cons qstr (qa_cons qstr (qa_cons qstr (qa_cons qstr (qa_cons qstr (qa_cons qstr (qa_cons qstr qa_nil)))))))))))))))))))) (qcons (qset (i := 1) nd rfl (.inl rfl) (qop op_add4 does_add (qvar (i := 1) rfl (.inl rfl)) (qlst (qa_cons (qop op_repS does_repS qstr qint) (qa_cons (qop op_add4 does_add qstr (qop op_repS does_repS qstr qint)) (qa_cons (qop op_repS does_repS qstr qint) (qa_cons (qop op_repS does_repS qstr qint) (qa_cons qstr (qa_cons qstr (qa_cons qstr (qa_cons qstr (qa_cons qstr (qa_cons qstr (qa_cons qstr qa_nil)))))))))))))) (qcons (qset (i := 1) nd rfl (.inl rfl) (qop op_add4 does_add (qvar (i := 1) rfl (.inl rfl)) (qlst (qa_cons qstr (qa_cons qstr (qa_cons qstr (qa_cons qstr (qa_cons qstr (qa_cons qstr (qa_cons qstr (qa_cons qstr (qa_cons qstr (qa_cons qstr (qa_cons qstr qa_nil)))))))))))))) (qcons (qset (i := 1) nd rfl (.inl rfl) (qop op_add4 does_add (qvar (i := 1) rfl (.inl rfl)) (qlst (qa_cons qstr (qa_cons qstr (qa_cons qstr (qa_cons qstr (qa_cons qstr (qa_cons qstr (qa_cons qstr (qa_cons qstr (qa_cons qstr (qa_cons qstr qa_nil))))))))))))) (qone (qret (qix (qvar (i := 1) rfl (.inl rfl)) (qcall O__law_draw (hr.mono (by decide)) rfl g__law_draw F__law_draw.kp b__law_draw (fun σ => L2N.passAt tk σ) (qa_cons (qvar (i := 0) rfl (.inl rfl)) (qa_cons (qfnB call_len_seq does_len rfl f_len boot_len (qa_cons (qvar (i := 1) rfl (.inl rfl)) qa_nil)) qa_nil))))))))))
abbrev N__law_bent_signs : List Str := ["well", "text", "at", "way"]
theorem sc__law_bent_signs : FnScope N__law_bent_signs ["well", "text"] (defScope s__law_bent_signs) := ⟨rfl, rfl, rfl, by decide +kernel, rfl, by decide +kernel, by decide +kernel⟩
theorem ok__law_bent_signs (X0 : K.In h) (G : h.Ns mainGlobals mg) (c : He.SaysD fa fn K) (cx : exB (["ThreadError", "Unreadable"] : List Str) K = true) : ∃ fd, FunD K "_law_bent_signs" "_law_bent_signs" (defArgs s__law_bent_signs) (defBody s__law_bent_signs) (defScope s__law_bent_signs) [] [] (He.ga K "_law_bent_signs") fd ∧ FnOk P w K mg base (L2N.CX P w) 3 (He.ga K "_law_bent_signs") fd ["well", "text"] (spF K 2 m__law_bent_signs) := by
  obtain ⟨fd__law_draw, F__law_draw, O__law_draw⟩ := ok__law_draw (P := P) (w := w) (base := base) X0 G c cx
  have b__law_draw : Binds K fd__law_draw ["well", "many"] [] := F__law_draw.bindsN fun _ _ _ _ _ _ us hl => match us, hl with | [_, _], _ => rfl
  have g__law_draw : mg "_law_draw" = some (.ref (He.ga K "_law_draw")) := He.glo_ok X0 G (c.fact 19 rfl)
  obtain ⟨fd__law_sign, F__law_sign, O__law_sign⟩ := ok__law_sign (P := P) (w := w) (base := base) X0 G c cx
  have b__law_sign : Binds K fd__law_sign ["well"] [] := F__law_sign.bindsN fun _ _ _ _ _ _ us hl => match us, hl with | [_], _ => rfl
  have g__law_sign : mg "_law_sign" = some (.ref (He.ga K "_law_sign")) := He.glo_ok X0 G (c.fact 27 rfl)
  have f_len : mg "len" = none := He.free_ok X0 G (c.fact 48 rfl)
  obtain ⟨fd, F⟩ := c.def_ 29 (d := d__law_bent_signs) rfl
  refine ⟨fd, F, fn_ok (k := 2) F sc__law_bent_signs fun cdv A outer s H E hr B => ?_⟩
  have hp : PassesOwn (model P w) _ _ _ := passes_of (X := cxOf (L2N.CX P w) P w K mg base N__law_bent_signs "_law_bent_signs" (defScope s__law_bent_signs) (He.ga K "_law_bent_signs") cdv A outer s H E) (K := fun e s'' => L2N.CX P w outer H s E e s'') rfl
  have tk := L2N.takes_of (X := cxOf (L2N.CX P w) P w K mg base N__law_bent_signs "_law_bent_signs" (defScope s__law_bent_signs) (He.ga K "_law_bent_signs") cdv A outer s H E) (E := E) rfl rfl rfl rfl
  have nd := sc__law_bent_signs.nd
  exact (qcons (qpar2 (i := 2) (j := 3) rfl nd rfl rfl (by decide) rfl rfl (qa_cons (qcall O__law_draw (hr.mono (by decide)) rfl g__law_draw F__law_draw.kp b__law_draw (fun σ => L2N.passAt tk σ) (qa_cons (qvar (i := 0) rfl (.inl rfl)) (qa_cons (qop op_add4 does_add (qfnB call_len_str does_lenS rfl f_len boot_len (qa_cons (qvar (i := 1) rfl (.inl rfl)) qa_nil)) qint) qa_nil))) (qa_cons (qcall O__law_draw (hr.mono (by decide)) rfl g__law_draw F__law_draw.kp b__law_draw (fun σ => L2N.passAt tk σ) (qa_cons (qvar (i := 0) rfl (.inl rfl)) (qa_cons qint qa_nil))) qa_nil)) (by rfl)) (qcons (qif (qtcmp (op_eqD hr.units) does_eq (qvar (i := 3) rfl (.inl rfl)) qint) (qone (qret (qop op_add4 does_add (qop op_add4 does_add (qslS (qvar (i := 1) rfl (.inl rfl)) qpn (qps (qvar (i := 2) rfl (.inl rfl)))) (qcall O__law_sign (hr.mono (by decide)) rfl g__law_sign F__law_sign.kp b__law_sign (fun σ => L2N.passAt tk σ) (qa_cons (qvar (i := 0) rfl (.inl rfl)) qa_nil))) (qslS (qvar (i := 1) rfl (.inl rfl)) (qps (qvar (i := 2) rfl (.inl rfl))) qpn)))) qnil) (qcons (qif (qtcmp (op_eqD hr.units) does_eq (qvar (i := 3) rfl (.inl rfl)) qint) (qone (qret (qop op_add4 does_add (qop op_add4 does_add (qslS (qvar (i := 1) rfl (.inl rfl)) qpn (qps (qvar (i := 2) rfl (.inl rfl)))) (qcall O__law_sign (hr.mono (by decide)) rfl g__law_sign F__law_sign.kp b__law_sign (fun σ => L2N.passAt tk σ) (qa_cons (qvar (i := 0) rfl (.inl rfl)) qa_nil))) (qslS (qvar (i := 1) rfl (.inl rfl)) (qps (qop op_add4 does_add (qvar (i := 2) rfl (.inl rfl)) qint)) qpn)))) qnil) (qcons (qif (qtcmp (op_eqD hr.units) does_eq (qvar (i := 3) rfl (.inl rfl)) qint) (qone (qret (qop op_add4 does_add (qslS (qvar (i := 1) rfl (.inl rfl)) qpn (qps (qvar (i := 2) rfl (.inl rfl)))) (qslS (qvar (i := 1) rfl (.inl rfl)) (qps (qop op_add4 does_add (qvar (i := 2) rfl (.inl rfl)) qint)) qpn)))) qnil) (qone (qret (qop op_add4 does_add (qop op_add4 does_add (qop op_add4 does_add (qslS (qvar (i := 1) rfl (.inl rfl)) qpn (qps (qvar (i := 2) rfl (.inl rfl)))) (qslS (qvar (i := 1) rfl (.inl rfl)) (qps (qop op_add4 does_add (qvar (i := 2) rfl (.inl rfl)) qint)) (qps (qop op_add4 does_add (qvar (i := 2) rfl (.inl rfl)) qint)))) (qslS (qvar (i := 1) rfl (.inl rfl)) (qps (qvar (i := 2) rfl (.inl rfl))) (qps (qop op_add4 does_add (qvar (i := 2) rfl (.inl rfl)) qint)))) (qslS (qvar (i := 1) rfl (.inl rfl)) (qps (qop op_add4 does_add (qvar (i := 2) rfl (.inl rfl)) qint)) qpn))))))))
abbrev N__law_bent_parts : List Str := ["well", "text", "between", "odd", "parts", "at", "way", "other", "kept"]
theorem sc__law_bent_parts : FnScope N__law_bent_parts ["well", "text", "between", "odd"] (defScope s__law_bent_parts) := ⟨rfl, rfl, rfl, by decide +kernel, rfl, by decide +kernel, by decide +kernel⟩
theorem ok__law_bent_parts (X0 : K.In h) (G : h.Ns mainGlobals mg) (c : He.SaysD fa fn K) (cx : exB (["ThreadError", "Unreadable"] : List Str) K = true) : ∃ fd, FunD K "_law_bent_parts" "_law_bent_parts" (defArgs s__law_bent_parts) (defBody s__law_bent_parts) (defScope s__law_bent_parts) [] [] (He.ga K "_law_bent_parts") fd ∧ FnOk P w K mg base (L2N.CX P w) 2 (He.ga K "_law_bent_parts") fd ["well", "text", "between", "odd"] (spF K 4 m__law_bent_parts) := by
  obtain ⟨fd__law_draw, F__law_draw, O__law_draw⟩ := ok__law_draw (P := P) (w := w) (base := base) X0 G c cx
  have b__law_draw : Binds K fd__law_draw ["well", "many"] [] := F__law_draw.bindsN fun _ _ _ _ _ _ us hl => match us, hl with | [_, _], _ => rfl
  have g__law_draw : mg "_law_draw" = some (.ref (He.ga K "_law_draw")) := He.glo_ok X0 G (c.fact 19 rfl)
  have f_len : mg "len" = none := He.free_ok X0 G (c.fact 48 rfl)
  obtain ⟨fd, F⟩ := c.def_ 30 (d := d__law_bent_parts) rfl
  refine ⟨fd, F, fn_ok (k := 1) F sc__law_bent_parts fun cdv A outer s H E hr B => ?_⟩
  have hp : PassesOwn (model P w) _ _ _ := passes_of (X := cxOf (L2N.CX P w) P w K mg base N__law_bent_parts "_law_bent_parts" (defScope s__law_bent_parts) (He.ga K "_law_bent_parts") cdv A outer s H E) (K := fun e s'' => L2N.CX P w outer H s E e s'') rfl
  have tk := L2N.takes_of (X := cxOf (L2N.CX P w) P w K mg base N__law_bent_parts "_law_bent_parts" (defScope s__law_bent_parts) (He.ga K "_law_bent_parts") cdv A outer s H E) (E := E) rfl rfl rfl rfl
  have nd := sc__law_bent_parts.nd
  exact (qcons (qset (i := 4) nd rfl (.inl rfl) (qsm1 PySem.F.slot_str_split PySem.F.type_str_split mt_split sm_split (qvar (i := 1) rfl (.inl rfl)) (qvar (i := 2) rfl (.inl rfl)))) (qcons (qpar2 (i := 5) (j := 6) rfl nd rfl rfl (by decide) rfl rfl (qa_cons (qcall O__law_draw (hr.mono (by decide)) rfl g__law_draw F__law_draw.kp b__law_draw (fun σ => L2N.passAt tk σ) (qa_cons (qvar (i := 0) rfl (.inl rfl)) (qa_cons (qfnB call_len_seq does_len rfl f_len boot_len (qa_cons (qvar (i := 4) rfl (.inl rfl)) qa_nil)) qa_nil))) (qa_cons (qcall O__law_draw (hr.mono (by decide)) rfl g__law_draw F__law_draw.kp b__law_draw (fun σ => L2N.passAt tk σ) (qa_cons (qvar (i := 0) rfl (.inl rfl)) (qa_cons qint qa_nil))) qa_nil)) (by rfl)) (qcons (qset (i := 7) nd rfl (.inl rfl) (qcall O__law_draw (hr.mono (by decide)) rfl g__law_draw F__law_draw.kp b__law_draw (fun σ => L2N.passAt tk σ) (qa_cons (qvar (i := 0) rfl (.inl rfl)) (qa_cons (qfnB call_len_seq does_len rfl f_len boot_len (qa_cons (qvar (i := 4) rfl (.inl rfl)) qa_nil)) qa_nil)))) (qcons (qif (qtcmp (op_eqD hr.units) does_eq (qvar (i := 6) rfl (.inl rfl)) qint) (qone (qexpr (qmeth (i := 4) PySem.F.slot_list_insert PySem.F.type_list_insert mt_insert does_insert rfl (.inl rfl) (qa_cons (qvar (i := 7) rfl (.inl rfl)) (qa_cons (qix (qvar (i := 4) rfl (.inl rfl)) (qvar (i := 5) rfl (.inl rfl))) qa_nil))))) (qone (qif (qtcmp (op_eqD hr.units) does_eq (qvar (i := 6) rfl (.inl rfl)) qint) (qone (qexpr (qmeth (i := 4) PySem.F.slot_list_pop PySem.F.type_list_pop mt_popAt does_pop rfl (.inl rfl) (qa_cons (qvar (i := 5) rfl (.inl rfl)) qa_nil)))) (qone (qif (qtcmp (op_eqD hr.units) does_eq (qvar (i := 6) rfl (.inl rfl)) qint) (qcons (qset (i := 8) nd rfl (.inl rfl) (qix (qvar (i := 4) rfl (.inl rfl)) (qvar (i := 5) rfl (.inl rfl)))) (qcons (qsetix (i := 4) rfl (.inl rfl) (qvar (i := 5) rfl (.inl rfl)) (qix (qvar (i := 4) rfl (.inl rfl)) (qvar (i := 7) rfl (.inl rfl)))) (qone (qsetix (i := 4) rfl (.inl rfl) (qvar (i := 7) rfl (.inl rfl)) (qvar (i := 8) rfl (.inl rfl)))))) (qone (qsetix (i := 4) rfl (.inl rfl) (qvar (i := 5) rfl (.inl rfl)) (qvar (i := 3) rfl (.inl rfl))))))))) (qone (qret (qjoin (qvar (i := 2) rfl (.inl rfl)) (qvar (i := 4) rfl (.inl rfl)))))))))
abbrev N__law_integer_in : List Str := ["word", "sign"]
theorem sc__law_integer_in : FnScope N__law_integer_in ["word"] (defScope s__law_integer_in) := ⟨rfl, rfl, rfl, by decide +kernel, rfl, by decide +kernel, by decide +kernel⟩
theorem ok__law_integer_in (X0 : K.In h) (G : h.Ns mainGlobals mg) (c : He.SaysD fa fn K) (cx : exB (["ThreadError", "Unreadable"] : List Str) K = true) : ∃ fd, FunD K "_law_integer_in" "_law_integer_in" (defArgs s__law_integer_in) (defBody s__law_integer_in) (defScope s__law_integer_in) [] [] (He.ga K "_law_integer_in") fd ∧ FnOk P w K mg base (L2N.CX P w) 1 (He.ga K "_law_integer_in") fd ["word"] (spF K 1 m__law_integer_in) := by
  have f_int : mg "int" = none := He.free_ok X0 G (c.fact 46 rfl)
  have f_len : mg "len" = none := He.free_ok X0 G (c.fact 48 rfl)
  obtain ⟨fd, F⟩ := c.def_ 31 (d := d__law_integer_in) rfl
  refine ⟨fd, F, fn_ok (k := 0) F sc__law_integer_in fun cdv A outer s H E hr B => ?_⟩
  have hp : PassesOwn (model P w) _ _ _ := passes_of (X := cxOf (L2N.CX P w) P w K mg base N__law_integer_in "_law_integer_in" (defScope s__law_integer_in) (He.ga K "_law_integer_in") cdv A outer s H E) (K := fun e s'' => L2N.CX P w outer H s E e s'') rfl
  have tk := L2N.takes_of (X := cxOf (L2N.CX P w) P w K mg base N__law_integer_in "_law_integer_in" (defScope s__law_integer_in) (He.ga K "_law_integer_in") cdv A outer s H E) (E := E) rfl rfl rfl rfl
  have nd := sc__law_integer_in.nd
  exact (qcons (qif (QW.t (qw_or (qtcmp (op_eqD hr.units) does_eq (qvar (i := 0) rfl (.inl rfl)) qstr) (qw_or (qtcmp op_gt does_gt (qfnB call_len_str does_lenS rfl f_len boot_len (qa_cons (qvar (i := 0) rfl (.inl rfl)) qa_nil)) qint) (qw_or1 (qtcmp (op_neD hr.units) does_ne (qcomp (vs := [1]) rfl nd (qitx (qvar (i := 0) rfl (.inl rfl))) (blkOk_by (own := [("sign", 1)]) (N := N__law_integer_in) (sc := defScope s__law_integer_in) (by decide +kernel)) (gok_n (by decide)) rfl (fun _ _ _ _ _ B => (qgn (i := 1) nd rfl (.inl rfl) (by decide))) (fun _ _ _ _ _ => (qtsone (qtcmp op_notInS does_niS (qvar (i := 1) rfl (.inl rfl)) qstr))) (fun _ _ _ _ _ => (qvar (i := 1) rfl (.inl rfl)))) (qlst qa_nil)))))) (qone (qret (qlst qa_nil))) qnil) (qone (qret (qifx (QW.t (qw_and (qtcmp (op_eqD hr.units) does_eq (qixS (qvar (i := 0) rfl (.inl rfl)) qint) qstr) (qw_and1 (qtcmp (op_neD hr.units) does_ne (qvar (i := 0) rfl (.inl rfl)) qstr)))) (qlst qa_nil) (qlst (qa_cons (qfnT call_int_str does_intT rfl f_int boot_int (qa_cons (qvar (i := 0) rfl (.inl rfl)) qa_nil)) qa_nil))))))
abbrev N__law_all_in : List Str := ["told", "one"]
theorem sc__law_all_in : FnScope N__law_all_in ["told"] (defScope s__law_all_in) := ⟨rfl, rfl, rfl, by decide +kernel, rfl, by decide +kernel, by decide +kernel⟩
theorem ok__law_all_in (X0 : K.In h) (G : h.Ns mainGlobals mg) (c : He.SaysD fa fn K) (cx : exB (["ThreadError", "Unreadable"] : List Str) K = true) : ∃ fd, FunD K "_law_all_in" "_law_all_in" (defArgs s__law_all_in) (defBody s__law_all_in) (defScope s__law_all_in) [] [] (He.ga K "_law_all_in") fd ∧ FnOk P w K mg base (L2N.CX P w) 1 (He.ga K "_law_all_in") fd ["told"] (spF K 1 m__law_all_in) := by
  have f_tuple : mg "tuple" = none := He.free_ok X0 G (c.fact 54 rfl)
  obtain ⟨fd, F⟩ := c.def_ 32 (d := d__law_all_in) rfl
  refine ⟨fd, F, fn_ok (k := 0) F sc__law_all_in fun cdv A outer s H E hr B => ?_⟩
  have hp : PassesOwn (model P w) _ _ _ := passes_of (X := cxOf (L2N.CX P w) P w K mg base N__law_all_in "_law_all_in" (defScope s__law_all_in) (He.ga K "_law_all_in") cdv A outer s H E) (K := fun e s'' => L2N.CX P w outer H s E e s'') rfl
  have tk := L2N.takes_of (X := cxOf (L2N.CX P w) P w K mg base N__law_all_in "_law_all_in" (defScope s__law_all_in) (He.ga K "_law_all_in") cdv A outer s H E) (E := E) rfl rfl rfl rfl
  have nd := sc__law_all_in.nd
  exact (qone (qret (qifx (qtcmp (op_in2 (room65 hr)) does_in (qlst qa_nil) (qvar (i := 0) rfl (.inl rfl))) (qlst qa_nil) (qlst (qa_cons (qfnT call_tuple_of does_tuple rfl f_tuple boot_tuple (qa_cons (qcomp (vs := [1]) rfl nd (qiof (qvar (i := 0) rfl (.inl rfl))) (blkOk_by (own := [("one", 1)]) (N := N__law_all_in) (sc := defScope s__law_all_in) (by decide +kernel)) (gok_n (by decide)) rfl (fun _ _ _ _ _ B => (qgn (i := 1) nd rfl (.inl rfl) (by decide))) (fun _ _ _ _ _ => qtsnil) (fun _ _ _ _ _ => (qix (qvar (i := 1) rfl (.inl rfl)) qint))) qa_nil)) qa_nil)))))
abbrev N__law_integers_in : List Str := ["text", "many", "between", "found", "word"]
theorem sc__law_integers_in : FnScope N__law_integers_in ["text", "many", "between"] (defScope s__law_integers_in) := ⟨rfl, rfl, rfl, by decide +kernel, rfl, by decide +kernel, by decide +kernel⟩
theorem ok__law_integers_in (X0 : K.In h) (G : h.Ns mainGlobals mg) (c : He.SaysD fa fn K) (cx : exB (["ThreadError", "Unreadable"] : List Str) K = true) : ∃ fd, FunD K "_law_integers_in" "_law_integers_in" (defArgs s__law_integers_in) (defBody s__law_integers_in) (defScope s__law_integers_in) [] [] (He.ga K "_law_integers_in") fd ∧ FnOk P w K mg base (L2N.CX P w) 2 (He.ga K "_law_integers_in") fd ["text", "many", "between"] (spF K 3 m__law_integers_in) := by
  obtain ⟨fd__law_all_in, F__law_all_in, O__law_all_in⟩ := ok__law_all_in (P := P) (w := w) (base := base) X0 G c cx
  have b__law_all_in : Binds K fd__law_all_in ["told"] [] := F__law_all_in.bindsN fun _ _ _ _ _ _ us hl => match us, hl with | [_], _ => rfl
  have g__law_all_in : mg "_law_all_in" = some (.ref (He.ga K "_law_all_in")) := He.glo_ok X0 G (c.fact 32 rfl)
  obtain ⟨fd__law_integer_in, F__law_integer_in, O__law_integer_in⟩ := ok__law_integer_in (P := P) (w := w) (base := base) X0 G c cx
  have b__law_integer_in : Binds K fd__law_integer_in ["word"] [] := F__law_integer_in.bindsN fun _ _ _ _ _ _ us hl => match us, hl with | [_], _ => rfl
  have g__law_integer_in : mg "_law_integer_in" = some (.ref (He.ga K "_law_integer_in")) := He.glo_ok X0 G (c.fact 31 rfl)
  have f_len : mg "len" = none := He.free_ok X0 G (c.fact 48 rfl)
  obtain ⟨fd, F⟩ := c.def_ 33 (d := d__law_integers_in) rfl
  refine ⟨fd, F, fn_ok (k := 1) F sc__law_integers_in fun cdv A outer s H E hr B => ?_⟩
  have hp : PassesOwn (model P w) _ _ _ := passes_of (X := cxOf (L2N.CX P w) P w K mg base N__law_integers_in "_law_integers_in" (defScope s__law_integers_in) (He.ga K "_law_integers_in") cdv A outer s H E) (K := fun e s'' => L2N.CX P w outer H s E e s'') rfl
  have tk := L2N.takes_of (X := cxOf (L2N.CX P w) P w K mg base N__law_integers_in "_law_integers_in" (defScope s__law_integers_in) (He.ga K "_law_integers_in") cdv A outer s H E) (E := E) rfl rfl rfl rfl
  have nd := sc__law_integers_in.nd
  exact (qcons (qset (i := 3) nd rfl (.inl rfl) (qcall O__law_all_in (hr.mono (by decide)) rfl g__law_all_in F__law_all_in.kp b__law_all_in (fun σ => L2N.passAt tk σ) (qa_cons (qcomp (vs := [4]) rfl nd (qiof (qsm1 PySem.F.slot_str_split PySem.F.type_str_split mt_split sm_split (qvar (i := 0) rfl (.inl rfl)) (qvar (i := 2) rfl (.inl rfl)))) (blkOk_by (own := [("word", 4)]) (N := N__law_integers_in) (sc := defScope s__law_integers_in) (by decide +kernel)) (gok_n (by decide)) rfl (fun _ _ _ _ _ B => (qgn (i := 4) nd rfl (.inl rfl) (by decide))) (fun _ _ _ _ _ => qtsnil) (fun _ _ _ _ _ => (qcall O__law_integer_in (hr.mono (by decide)) rfl g__law_integer_in F__law_integer_in.kp b__law_integer_in (fun σ => L2N.passAt takesN0 σ) (qa_cons (qvar (i := 4) rfl (.inl rfl)) qa_nil)))) qa_nil))) (qone (qret (qifx (QW.t (qw_and (qtcmp (op_neD hr.units) does_ne (qvar (i := 3) rfl (.inl rfl)) (qlst qa_nil)) (qw_and1 (qtcmp (op_eqD hr.units) does_eq (qfnB call_len_seq does_len rfl f_len boot_len (qa_cons (qix (qvar (i := 3) rfl (.inl rfl)) qint) qa_nil)) (qvar (i := 1) rfl (.inl rfl)))))) (qvar (i := 3) rfl (.inl rfl)) (qlst qa_nil)))))
abbrev N__law_parts_in : List Str := ["line", "part"]
theorem sc__law_parts_in : FnScope N__law_parts_in ["line"] (defScope s__law_parts_in) := ⟨rfl, rfl, rfl, by decide +kernel, rfl, by decide +kernel, by decide +kernel⟩
theorem ok__law_parts_in (X0 : K.In h) (G : h.Ns mainGlobals mg) (c : He.SaysD fa fn K) (cx : exB (["ThreadError", "Unreadable"] : List Str) K = true) : ∃ fd, FunD K "_law_parts_in" "_law_parts_in" (defArgs s__law_parts_in) (defBody s__law_parts_in) (defScope s__law_parts_in) [] [] (He.ga K "_law_parts_in") fd ∧ FnOk P w K mg base (L2N.CX P w) 3 (He.ga K "_law_parts_in") fd ["line"] (spF K 1 m__law_parts_in) := by
  obtain ⟨fd__law_all_in, F__law_all_in, O__law_all_in⟩ := ok__law_all_in (P := P) (w := w) (base := base) X0 G c cx
  have b__law_all_in : Binds K fd__law_all_in ["told"] [] := F__law_all_in.bindsN fun _ _ _ _ _ _ us hl => match us, hl with | [_], _ => rfl
  have g__law_all_in : mg "_law_all_in" = some (.ref (He.ga K "_law_all_in")) := He.glo_ok X0 G (c.fact 32 rfl)
  obtain ⟨fd__law_integers_in, F__law_integers_in, O__law_integers_in⟩ := ok__law_integers_in (P := P) (w := w) (base := base) X0 G c cx
  have b__law_integers_in : Binds K fd__law_integers_in ["text", "many", "between"] [] := F__law_integers_in.bindsN fun _ _ _ _ _ _ us hl => match us, hl with | [_, _, _], _ => rfl
  have g__law_integers_in : mg "_law_integers_in" = some (.ref (He.ga K "_law_integers_in")) := He.glo_ok X0 G (c.fact 33 rfl)
  obtain ⟨fd, F⟩ := c.def_ 34 (d := d__law_parts_in) rfl
  refine ⟨fd, F, fn_ok (k := 2) F sc__law_parts_in fun cdv A outer s H E hr B => ?_⟩
  have hp : PassesOwn (model P w) _ _ _ := passes_of (X := cxOf (L2N.CX P w) P w K mg base N__law_parts_in "_law_parts_in" (defScope s__law_parts_in) (He.ga K "_law_parts_in") cdv A outer s H E) (K := fun e s'' => L2N.CX P w outer H s E e s'') rfl
  have tk := L2N.takes_of (X := cxOf (L2N.CX P w) P w K mg base N__law_parts_in "_law_parts_in" (defScope s__law_parts_in) (He.ga K "_law_parts_in") cdv A outer s H E) (E := E) rfl rfl rfl rfl
  have nd := sc__law_parts_in.nd
  exact (qone (qret (qcall O__law_all_in (hr.mono (by decide)) rfl g__law_all_in F__law_all_in.kp b__law_all_in (fun σ => L2N.passAt tk σ) (qa_cons (qcomp (vs := [1]) rfl nd (qiof (qsm1 PySem.F.slot_str_split PySem.F.type_str_split mt_split sm_split (qvar (i := 0) rfl (.inl rfl)) qstr)) (blkOk_by (own := [("part", 1)]) (N := N__law_parts_in) (sc := defScope s__law_parts_in) (by decide +kernel)) (gok_n (by decide)) rfl (fun _ _ _ _ _ B => (qgn (i := 1) nd rfl (.inl rfl) (by decide))) (fun _ _ _ _ _ => qtsnil) (fun _ _ _ _ _ => (qcall O__law_integers_in (hr.mono (by decide)) rfl g__law_integers_in F__law_integers_in.kp b__law_integers_in (fun σ => L2N.passAt takesN0 σ) (qa_cons (qvar (i := 1) rfl (.inl rfl)) (qa_cons qint (qa_cons qstr qa_nil)))))) qa_nil))))
abbrev N__law_found : List Str := ["door", "line", "found", "last", "first", "behind", "word", "way", "mirror", "back"]
theorem sc__law_found : FnScope N__law_found ["door", "line"] (defScope s__law_found) := ⟨rfl, rfl, rfl, by decide +kernel, rfl, by decide +kernel, by decide +kernel⟩
theorem ok__law_found (X0 : K.In h) (G : h.Ns mainGlobals mg) (c : He.SaysD fa fn K) (cx : exB (["ThreadError", "Unreadable"] : List Str) K = true) : ∃ fd, FunD K "_law_found" "_law_found" (defArgs s__law_found) (defBody s__law_found) (defScope s__law_found) [] [] (He.ga K "_law_found") fd ∧ FnOk P w K mg base (L2N.CX P w) 4 (He.ga K "_law_found") fd ["door", "line"] (spF K 2 m__law_found) := by
  obtain ⟨fd__law_parts_in, F__law_parts_in, O__law_parts_in⟩ := ok__law_parts_in (P := P) (w := w) (base := base) X0 G c cx
  have b__law_parts_in : Binds K fd__law_parts_in ["line"] [] := F__law_parts_in.bindsN fun _ _ _ _ _ _ us hl => match us, hl with | [_], _ => rfl
  have g__law_parts_in : mg "_law_parts_in" = some (.ref (He.ga K "_law_parts_in")) := He.glo_ok X0 G (c.fact 34 rfl)
  obtain ⟨fd__law_integers_in, F__law_integers_in, O__law_integers_in⟩ := ok__law_integers_in (P := P) (w := w) (base := base) X0 G c cx
  have b__law_integers_in : Binds K fd__law_integers_in ["text", "many", "between"] [] := F__law_integers_in.bindsN fun _ _ _ _ _ _ us hl => match us, hl with | [_, _, _], _ => rfl
  have g__law_integers_in : mg "_law_integers_in" = some (.ref (He.ga K "_law_integers_in")) := He.glo_ok X0 G (c.fact 33 rfl)
  obtain ⟨fd__law_all_in, F__law_all_in, O__law_all_in⟩ := ok__law_all_in (P := P) (w := w) (base := base) X0 G c cx
  have b__law_all_in : Binds K fd__law_all_in ["told"] [] := F__law_all_in.bindsN fun _ _ _ _ _ _ us hl => match us, hl with | [_], _ => rfl
  have g__law_all_in : mg "_law_all_in" = some (.ref (He.ga K "_law_all_in")) := He.glo_ok X0 G (c.fact 32 rfl)
  have f_len : mg "len" = none := He.free_ok X0 G (c.fact 48 rfl)
  obtain ⟨fd, F⟩ := c.def_ 35 (d := d__law_found) rfl
  refine ⟨fd, F, fn_ok (k := 3) F sc__law_found fun cdv A outer s H E hr B => ?_⟩
  have hp : PassesOwn (model P w) _ _ _ := passes_of (X := cxOf (L2N.CX P w) P w K mg base N__law_found "_law_found" (defScope s__law_found) (He.ga K "_law_found") cdv A outer s H E) (K := fun e s'' => L2N.CX P w outer H s E e s'') rfl
  have tk := L2N.takes_of (X := cxOf (L2N.CX P w) P w K mg base N__law_found "_law_found" (defScope s__law_found) (He.ga K "_law_found") cdv A outer s H E) (E := E) rfl rfl rfl rfl
  have nd := sc__law_found.nd
  exact (qcons (qif (qtcmp (op_eqD hr.units) does_eq (qvar (i := 0) rfl (.inl rfl)) qint) (qone (qret (qcall O__law_integers_in (hr.mono (by decide)) rfl g__law_integers_in F__law_integers_in.kp b__law_integers_in (fun σ => L2N.passAt tk σ) (qa_cons (qvar (i := 1) rfl (.inl rfl)) (qa_cons qint (qa_cons qstr qa_nil)))))) qnil) (qcons (qif (qtcmp (op_eqD hr.units) does_eq (qvar (i := 0) rfl (.inl rfl)) qint) (qcons (qset (i := 2) nd rfl (.inl rfl) (qcall O__law_integers_in (hr.mono (by decide)) rfl g__law_integers_in F__law_integers_in.kp b__law_integers_in (fun σ => L2N.passAt tk σ) (qa_cons (qvar (i := 1) rfl (.inl rfl)) (qa_cons qint (qa_cons qstr qa_nil))))) (qone (qret (qifx (QW.t (qw_and (qtcmp (op_neD hr.units) does_ne (qvar (i := 2) rfl (.inl rfl)) (qlst qa_nil)) (qw_and (qtcmp op_lt does_lt (qix (qix (qvar (i := 2) rfl (.inl rfl)) qint) qint) (qix (qix (qvar (i := 2) rfl (.inl rfl)) qint) qint)) (qw_and1 (qtcmp op_lt does_lt (qix (qix (qvar (i := 2) rfl (.inl rfl)) qint) qint) (qix (qix (qvar (i := 2) rfl (.inl rfl)) qint) qint)))))) (qvar (i := 2) rfl (.inl rfl)) (qlst qa_nil))))) qnil) (qcons (qif (qtcmp (op_eqD hr.units) does_eq (qvar (i := 0) rfl (.inl rfl)) qint) (qcons (qpar2 (i := 2) (j := 3) rfl nd rfl rfl (by decide) rfl rfl (qa_cons (qcall O__law_all_in (hr.mono (by decide)) rfl g__law_all_in F__law_all_in.kp b__law_all_in (fun σ => L2N.passAt tk σ) (qa_cons (qcomp (vs := [6]) rfl nd (qiof (qsm1 PySem.F.slot_str_split PySem.F.type_str_split mt_split sm_split (qvar (i := 1) rfl (.inl rfl)) qstr)) (blkOk_by (own := [("word", 6)]) (N := N__law_found) (sc := defScope s__law_found) (by decide +kernel)) (gok_n (by decide)) rfl (fun _ _ _ _ _ B => (qgn (i := 6) nd rfl (.inl rfl) (by decide))) (fun _ _ _ _ _ => qtsnil) (fun _ _ _ _ _ => (qcall O__law_integers_in (hr.mono (by decide)) rfl g__law_integers_in F__law_integers_in.kp b__law_integers_in (fun σ => L2N.passAt takesN0 σ) (qa_cons (qvar (i := 6) rfl (.inl rfl)) (qa_cons qint (qa_cons qstr qa_nil)))))) qa_nil)) (qa_cons (qneg qint) qa_nil)) (by rfl)) (qcons (qfor (ws := [4, 5]) hp rfl (qiof (qifx (qtcmp (op_neD hr.units) does_ne (qvar (i := 2) rfl (.inl rfl)) (qlst qa_nil)) (qix (qvar (i := 2) rfl (.inl rfl)) qint) (qtup qa_nil))) (fun B => (qgt rfl (qgscons (qgn (i := 4) nd rfl (.inl rfl) (by decide)) (qgscons (qgn (i := 5) nd rfl (.inl rfl) (by decide)) qgsnil)))) (fun B => (qcons (qif (QW.t (qw_or (qtcmp op_le does_le (qvar (i := 4) rfl (.inl rfl)) (qvar (i := 3) rfl (.inl rfl))) (qw_or1 (qtcmp op_le does_le (qvar (i := 5) rfl (.inl rfl)) (qvar (i := 4) rfl (.inl rfl)))))) (qone (qret (qlst qa_nil))) qnil) (qone (qset (i := 3) nd rfl (.inl rfl) (qvar (i := 5) rfl (.inl rfl))))))) (qone (qret (qvar (i := 2) rfl (.inl rfl)))))) qnil) (qcons (qset (i := 2) nd rfl (.inl rfl) (qcall O__law_parts_in (hr.mono (by decide)) rfl g__law_parts_in F__law_parts_in.kp b__law_parts_in (fun σ => L2N.passAt tk σ) (qa_cons (qvar (i := 1) rfl (.inl rfl)) qa_nil))) (qcons (qif (QW.t (qw_or (qtcmp (op_eqD hr.units) does_eq (qvar (i := 2) rfl (.inl rfl)) (qlst qa_nil)) (qw_or1 (qtcmp (op_notIn2 (room65 hr)) does_notIn (qfnB call_len_seq does_len rfl f_len boot_len (qa_cons (qix (qvar (i := 2) rfl (.inl rfl)) qint) qa_nil)) (qtup (qa_cons qint (qa_cons qint qa_nil))))))) (qone (qret (qlst qa_nil))) qnil) (qone (qret (qifx (qtcmp (op_eqD hr.units) does_eq (qcomp (vs := [7, 8, 9]) rfl nd (qiof (qix (qvar (i := 2) rfl (.inl rfl)) qint)) (blkOk_by (own := [("way", 7), ("mirror", 8), ("back", 9)]) (N := N__law_found) (sc := defScope s__law_found) (by decide +kernel)) (gok_t (gsok_cons (gok_n (by decide)) (gsok_cons (gok_n (by decide)) (gsok_cons (gok_n (by decide)) gsok_nil)))) rfl (fun _ _ _ _ _ B => (qgt rfl (qgscons (qgn (i := 7) nd rfl (.inl rfl) (by decide)) (qgscons (qgn (i := 8) nd rfl (.inl rfl) (by decide)) (qgscons (qgn (i := 9) nd rfl (.inl rfl) (by decide)) qgsnil))))) (fun _ _ _ _ _ => (qtsone (QW.t (qw_or (qtcmp op_gt does_gt (qvar (i := 7) rfl (.inl rfl)) qint) (qw_or (qtcmp op_gt does_gt (qvar (i := 8) rfl (.inl rfl)) qint) (qw_or1 (qtcmp op_gt does_gt (qvar (i := 9) rfl (.inl rfl)) qint))))))) (fun _ _ _ _ _ => qint)) (qlst qa_nil)) (qvar (i := 2) rfl (.inl rfl)) (qlst qa_nil)))))))))
abbrev N__law_due : List Str := ["door", "text", "found"]
theorem sc__law_due : FnScope N__law_due ["door", "text"] (defScope s__law_due) := ⟨rfl, rfl, rfl, by decide +kernel, rfl, by decide +kernel, by decide +kernel⟩
theorem ok__law_due (X0 : K.In h) (G : h.Ns mainGlobals mg) (c : He.SaysD fa fn K) (cx : exB (["ThreadError", "Unreadable"] : List Str) K = true) : ∃ fd, FunD K "_law_due" "_law_due" (defArgs s__law_due) (defBody s__law_due) (defScope s__law_due) [] [] (He.ga K "_law_due") fd ∧ FnOk P w K mg base (L2N.CX P w) 5 (He.ga K "_law_due") fd ["door", "text"] (spF K 2 m__law_due) := by
  obtain ⟨fd__law_found, F__law_found, O__law_found⟩ := ok__law_found (P := P) (w := w) (base := base) X0 G c cx
  have b__law_found : Binds K fd__law_found ["door", "line"] [] := F__law_found.bindsN fun _ _ _ _ _ _ us hl => match us, hl with | [_, _], _ => rfl
  have g__law_found : mg "_law_found" = some (.ref (He.ga K "_law_found")) := He.glo_ok X0 G (c.fact 35 rfl)
  obtain ⟨fd, F⟩ := c.def_ 36 (d := d__law_due) rfl
  refine ⟨fd, F, fn_ok (k := 4) F sc__law_due fun cdv A outer s H E hr B => ?_⟩
  have hp : PassesOwn (model P w) _ _ _ := passes_of (X := cxOf (L2N.CX P w) P w K mg base N__law_due "_law_due" (defScope s__law_due) (He.ga K "_law_due") cdv A outer s H E) (K := fun e s'' => L2N.CX P w outer H s E e s'') rfl
  have tk := L2N.takes_of (X := cxOf (L2N.CX P w) P w K mg base N__law_due "_law_due" (defScope s__law_due) (He.ga K "_law_due") cdv A outer s H E) (E := E) rfl rfl rfl rfl
  have nd := sc__law_due.nd
  exact (qcons (qset (i := 2) nd rfl (.inl rfl) (qcall O__law_found (hr.mono (by decide)) rfl g__law_found F__law_found.kp b__law_found (fun σ => L2N.passAt tk σ) (qa_cons (qvar (i := 0) rfl (.inl rfl)) (qa_cons (qix (qsm1 PySem.F.slot_str_split PySem.F.type_str_split mt_split sm_split (qvar (i := 1) rfl (.inl rfl)) qstr) qint) qa_nil)))) (qcons (qif (qtcmp (op_eqD hr.units) does_eq (qvar (i := 2) rfl (.inl rfl)) (qlst qa_nil)) (qone (qret (qtup (qa_cons qstr (qa_cons qint qa_nil))))) qnil) (qone (qret (qifx (qtcmp op_inS does_inS qstr (qvar (i := 1) rfl (.inl rfl))) (qtup (qa_cons qstr (qa_cons qint qa_nil))) (qtup (qa_cons qstr (qa_cons (qix (qvar (i := 2) rfl (.inl rfl)) qint) qa_nil))))))))
abbrev N__law_read : List Str := ["door", "text", "named"]
theorem sc__law_read : FnScope N__law_read ["door", "text", "named"] (defScope s__law_read) := ⟨rfl, rfl, rfl, by decide +kernel, rfl, by decide +kernel, by decide +kernel⟩
theorem ok__law_read (X0 : K.In h) (G : h.Ns mainGlobals mg) (c : He.SaysD fa fn K) (cx : exB (["ThreadError", "Unreadable"] : List Str) K = true) : ∃ fd, FunD K "_law_read" "_law_read" (defArgs s__law_read) (defBody s__law_read) (defScope s__law_read) [] [] (He.ga K "_law_read") fd ∧ FnOk P w K mg base (L2N.CX P w) 8 (He.ga K "_law_read") fd ["door", "text", "named"] (spF K 3 m__law_read) := by
  obtain ⟨fd_read_make, F_read_make, O_read_make⟩ := ok_read_make (P := P) (w := w) (base := base) X0 G c cx
  have b_read_make : Binds K fd_read_make ["text"] [] := F_read_make.bindsN fun _ _ _ _ _ _ us hl => match us, hl with | [_], _ => rfl
  have g_read_make : mg "read_make" = some (.ref (He.ga K "read_make")) := He.glo_ok X0 G (c.fact 16 rfl)
  obtain ⟨fd_read_cell, F_read_cell, O_read_cell⟩ := ok_read_cell (P := P) (w := w) (base := base) X0 G c cx
  have b_read_cell : Binds K fd_read_cell ["text"] [] := F_read_cell.bindsN fun _ _ _ _ _ _ us hl => match us, hl with | [_], _ => rfl
  have g_read_cell : mg "read_cell" = some (.ref (He.ga K "read_cell")) := He.glo_ok X0 G (c.fact 9 rfl)
  obtain ⟨fd_read_box, F_read_box, O_read_box⟩ := ok_read_box (P := P) (w := w) (base := base) X0 G c cx
  have b_read_box : Binds K fd_read_box ["text"] [] := F_read_box.bindsN fun _ _ _ _ _ _ us hl => match us, hl with | [_], _ => rfl
  have g_read_box : mg "read_box" = some (.ref (He.ga K "read_box")) := He.glo_ok X0 G (c.fact 12 rfl)
  obtain ⟨fd_read_spans, F_read_spans, O_read_spans⟩ := ok_read_spans (P := P) (w := w) (base := base) X0 G c cx
  have b_read_spans : Binds K fd_read_spans ["text"] [] := F_read_spans.bindsN fun _ _ _ _ _ _ us hl => match us, hl with | [_], _ => rfl
  have g_read_spans : mg "read_spans" = some (.ref (He.ga K "read_spans")) := He.glo_ok X0 G (c.fact 14 rfl)
  obtain ⟨fd, F⟩ := c.def_ 37 (d := d__law_read) rfl
  refine ⟨fd, F, fn_ok (k := 7) F sc__law_read fun cdv A outer s H E hr B => ?_⟩
  have hp : PassesOwn (model P w) _ _ _ := passes_of (X := cxOf (L2N.CX P w) P w K mg base N__law_read "_law_read" (defScope s__law_read) (He.ga K "_law_read") cdv A outer s H E) (K := fun e s'' => L2N.CX P w outer H s E e s'') rfl
  have tk := L2N.takes_of (X := cxOf (L2N.CX P w) P w K mg base N__law_read "_law_read" (defScope s__law_read) (He.ga K "_law_read") cdv A outer s H E) (E := E) rfl rfl rfl rfl
  have nd := sc__law_read.nd
  exact (qcons (qif (qtcmp (op_eqD hr.units) does_eq (qvar (i := 0) rfl (.inl rfl)) qint) (qone (qret (qifx (qtval (qvar (i := 2) rfl (.inl rfl))) (qcallk (ks := ["text"]) (perm := [0]) O_read_cell (hr.mono (by decide)) rfl g_read_cell F_read_cell.kp (kwBinds_of (ks := ["text"]) F_read_cell fun _ _ _ _ _ _ ws hl => match ws, hl with | [_], _ => rfl) (fun σ => L2N.passAt tk σ) (qk_cons (qvar (i := 1) rfl (.inl rfl)) qk_nil)) (qcall O_read_cell (hr.mono (by decide)) rfl g_read_cell F_read_cell.kp b_read_cell (fun σ => L2N.passAt tk σ) (qa_cons (qvar (i := 1) rfl (.inl rfl)) qa_nil))))) qnil) (qcons (qif (qtcmp (op_eqD hr.units) does_eq (qvar (i := 0) rfl (.inl rfl)) qint) (qone (qret (qifx (qtval (qvar (i := 2) rfl (.inl rfl))) (qcallk (ks := ["text"]) (perm := [0]) O_read_box (hr.mono (by decide)) rfl g_read_box F_read_box.kp (kwBinds_of (ks := ["text"]) F_read_box fun _ _ _ _ _ _ ws hl => match ws, hl with | [_], _ => rfl) (fun σ => L2N.passAt tk σ) (qk_cons (qvar (i := 1) rfl (.inl rfl)) qk_nil)) (qcall O_read_box (hr.mono (by decide)) rfl g_read_box F_read_box.kp b_read_box (fun σ => L2N.passAt tk σ) (qa_cons (qvar (i := 1) rfl (.inl rfl)) qa_nil))))) qnil) (qcons (qif (qtcmp (op_eqD hr.units) does_eq (qvar (i := 0) rfl (.inl rfl)) qint) (qone (qret (qifx (qtval (qvar (i := 2) rfl (.inl rfl))) (qcallk (ks := ["text"]) (perm := [0]) O_read_spans (hr.mono (by decide)) rfl g_read_spans F_read_spans.kp (kwBinds_of (ks := ["text"]) F_read_spans fun _ _ _ _ _ _ ws hl => match ws, hl with | [_], _ => rfl) (fun σ => L2N.passAt tk σ) (qk_cons (qvar (i := 1) rfl (.inl rfl)) qk_nil)) (qcall O_read_spans (hr.mono (by decide)) rfl g_read_spans F_read_spans.kp b_read_spans (fun σ => L2N.passAt tk σ) (qa_cons (qvar (i := 1) rfl (.inl rfl)) qa_nil))))) qnil) (qone (qret (qifx (qtval (qvar (i := 2) rfl (.inl rfl))) (qcallk (ks := ["text"]) (perm := [0]) O_read_make (hr.mono (by decide)) rfl g_read_make F_read_make.kp (kwBinds_of (ks := ["text"]) F_read_make fun _ _ _ _ _ _ ws hl => match ws, hl with | [_], _ => rfl) (fun σ => L2N.passAt tk σ) (qk_cons (qvar (i := 1) rfl (.inl rfl)) qk_nil)) (qcall O_read_make (hr.mono (by decide)) rfl g_read_make F_read_make.kp b_read_make (fun σ => L2N.passAt tk σ) (qa_cons (qvar (i := 1) rfl (.inl rfl)) qa_nil))))))))
abbrev N__law_told : List Str := ["door", "text", "named", "word", "found", "error"]
theorem sc__law_told : FnScope N__law_told ["door", "text", "named"] (defScope s__law_told) := ⟨rfl, rfl, rfl, by decide +kernel, rfl, by decide +kernel, by decide +kernel⟩
theorem ok__law_told (X0 : K.In h) (G : h.Ns mainGlobals mg) (c : He.SaysD fa fn K) (cx : exB (["ThreadError", "Unreadable"] : List Str) K = true) : ∃ fd, FunD K "_law_told" "_law_told" (defArgs s__law_told) (defBody s__law_told) (defScope s__law_told) [] [] (He.ga K "_law_told") fd ∧ FnOk P w K mg base (L2N.CX P w) 9 (He.ga K "_law_told") fd ["door", "text", "named"] (spF K 3 m__law_told) := by
  obtain ⟨fd__law_read, F__law_read, O__law_read⟩ := ok__law_read (P := P) (w := w) (base := base) X0 G c cx
  have b__law_read : Binds K fd__law_read ["door", "text", "named"] [] := F__law_read.bindsN fun _ _ _ _ _ _ us hl => match us, hl with | [_, _, _], _ => rfl
  have g__law_read : mg "_law_read" = some (.ref (He.ga K "_law_read")) := He.glo_ok X0 G (c.fact 37 rfl)
  have Ex : ExcOk K mg (["ThreadError", "Unreadable"] : List Str) := exB_ok X0 G cx
  obtain ⟨fd, F⟩ := c.def_ 38 (d := d__law_told) rfl
  refine ⟨fd, F, fn_ok (k := 8) F sc__law_told fun cdv A outer s H E hr B => ?_⟩
  have hp : PassesOwn (model P w) _ _ _ := passes_of (X := cxOf (L2N.CX P w) P w K mg base N__law_told "_law_told" (defScope s__law_told) (He.ga K "_law_told") cdv A outer s H E) (K := fun e s'' => L2N.CX P w outer H s E e s'') rfl
  have tk := L2N.takes_of (X := cxOf (L2N.CX P w) P w K mg base N__law_told "_law_told" (defScope s__law_told) (He.ga K "_law_told") cdv A outer s H E) (E := E) rfl rfl rfl rfl
  have nd := sc__law_told.nd
  exact (qcons (qparT (is := [3, 4]) (gs := gsNames [3, 4]) rfl (qa_cons qstr (qa_cons qnon qa_nil)) (pgs_cons (pg_name (i := 3) nd rfl (.inl rfl)) (pgs_cons (pg_name (i := 4) nd rfl (.inl rfl)) pgs_nil)) (gsNames_ok [3, 4]) (by decide)) (qcons (qtry (cs := (["ThreadError", "Unreadable"] : List Str)) rfl rfl nd tk Ex (fun W2 pn xe tk hp => (qone (qset (i := 4) nd rfl (.inl rfl) (qcall O__law_read (hr.mono (by decide)) rfl g__law_read F__law_read.kp b__law_read (fun σ => L2N.passAt tk σ) (qa_cons (qvar (i := 0) rfl (.inl rfl)) (qa_cons (qvar (i := 1) rfl (.inl rfl)) (qa_cons (qvar (i := 2) rfl (.inl rfl)) qa_nil))))))) (.named (i := 5) (by decide +kernel) rfl rfl rfl (su_par (i := 3) (j := 4) (k := 5) Ex nd rfl rfl rfl (by decide) rfl rfl rfl (by rfl)) (.plain (by decide +kernel) rfl (su_plain fun a pn => (qone (qset (i := 3) nd rfl (.inl rfl) qstr))) .nil))) (qone (qret (qtup (qa_cons (qvar (i := 3) rfl (.inl rfl)) (qa_cons (qvar (i := 4) rfl (.inl rfl)) qa_nil)))))))
abbrev N__law_met : List Str := ["well", "text", "words", "at"]
theorem sc__law_met : FnScope N__law_met ["well", "text"] (defScope s__law_met) := ⟨rfl, rfl, rfl, by decide +kernel, rfl, by decide +kernel, by decide +kernel⟩
theorem ok__law_met (X0 : K.In h) (G : h.Ns mainGlobals mg) (c : He.SaysD fa fn K) (cx : exB (["ThreadError", "Unreadable"] : List Str) K = true) : ∃ fd, FunD K "_law_met" "_law_met" (defArgs s__law_met) (defBody s__law_met) (defScope s__law_met) [] [] (He.ga K "_law_met") fd ∧ FnOk P w K mg base (L2N.CX P w) 2 (He.ga K "_law_met") fd ["well", "text"] (spF K 2 m__law_met) := by
  obtain ⟨fd__law_draw, F__law_draw, O__law_draw⟩ := ok__law_draw (P := P) (w := w) (base := base) X0 G c cx
  have b__law_draw : Binds K fd__law_draw ["well", "many"] [] := F__law_draw.bindsN fun _ _ _ _ _ _ us hl => match us, hl with | [_, _], _ => rfl
  have g__law_draw : mg "_law_draw" = some (.ref (He.ga K "_law_draw")) := He.glo_ok X0 G (c.fact 19 rfl)
  have f_len : mg "len" = none := He.free_ok X0 G (c.fact 48 rfl)
  obtain ⟨fd, F⟩ := c.def_ 39 (d := d__law_met) rfl
  refine ⟨fd, F, fn_ok (k := 1) F sc__law_met fun cdv A outer s H E hr B => ?_⟩
  have hp : PassesOwn (model P w) _ _ _ := passes_of (X := cxOf (L2N.CX P w) P w K mg base N__law_met "_law_met" (defScope s__law_met) (He.ga K "_law_met") cdv A outer s H E) (K := fun e s'' => L2N.CX P w outer H s E e s'') rfl
  have tk := L2N.takes_of (X := cxOf (L2N.CX P w) P w K mg base N__law_met "_law_met" (defScope s__law_met) (He.ga K "_law_met") cdv A outer s H E) (E := E) rfl rfl rfl rfl
  have nd := sc__law_met.nd
  exact (qcons (qset (i := 2) nd rfl (.inl rfl) (qsm1 PySem.F.slot_str_split PySem.F.type_str_split mt_split sm_split (qvar (i := 1) rfl (.inl rfl)) qstr)) (qcons (qset (i := 3) nd rfl (.inl rfl) (qcall O__law_draw (hr.mono (by decide)) rfl g__law_draw F__law_draw.kp b__law_draw (fun σ => L2N.passAt tk σ) (qa_cons (qvar (i := 0) rfl (.inl rfl)) (qa_cons (qfnB call_len_seq does_len rfl f_len boot_len (qa_cons (qvar (i := 2) rfl (.inl rfl)) qa_nil)) qa_nil)))) (qcons (qif (QW.t (qw_and (qtcmp op_gt does_gt (qvar (i := 3) rfl (.inl rfl)) qint) (qw_and1 (qtcmp op_inS does_inS qstr (qvar (i := 1) rfl (.inl rfl)))))) (qone (qsetix (i := 2) rfl (.inl rfl) (qvar (i := 3) rfl (.inl rfl)) (qop op_add4 does_add (qop op_add4 does_add (qix (qsm1 PySem.F.slot_str_split PySem.F.type_str_split mt_split sm_split (qix (qvar (i := 2) rfl (.inl rfl)) (qop op_sub does_sub (qvar (i := 3) rfl (.inl rfl)) qint)) qstr) (qneg qint)) qstr) (qix (qsm1 PySem.F.slot_str_split PySem.F.type_str_split mt_split sm_split (qix (qvar (i := 2) rfl (.inl rfl)) (qvar (i := 3) rfl (.inl rfl))) qstr) (qneg qint))))) (qone (qif (qtcmp op_gt does_gt (qvar (i := 3) rfl (.inl rfl)) qint) (qone (qsetix (i := 2) rfl (.inl rfl) (qvar (i := 3) rfl (.inl rfl)) (qix (qvar (i := 2) rfl (.inl rfl)) (qop op_sub does_sub (qvar (i := 3) rfl (.inl rfl)) qint)))) qnil))) (qone (qret (qjoin qstr (qvar (i := 2) rfl (.inl rfl))))))))
abbrev N__law_bent : List Str := ["well", "text", "turn", "way", "odd"]
theorem sc__law_bent : FnScope N__law_bent ["well", "text"] (defScope s__law_bent) := ⟨rfl, rfl, rfl, by decide +kernel, rfl, by decide +kernel, by decide +kernel⟩
theorem ok__law_bent (X0 : K.In h) (G : h.Ns mainGlobals mg) (c : He.SaysD fa fn K) (cx : exB (["ThreadError", "Unreadable"] : List Str) K = true) : ∃ fd, FunD K "_law_bent" "_law_bent" (defArgs s__law_bent) (defBody s__law_bent) (defScope s__law_bent) [] [] (He.ga K "_law_bent") fd ∧ FnOk P w K mg base (L2N.CX P w) 4 (He.ga K "_law_bent") fd ["well", "text"] (spF K 2 m__law_bent) := by
  obtain ⟨fd__law_draw, F__law_draw, O__law_draw⟩ := ok__law_draw (P := P) (w := w) (base := base) X0 G c cx
  have b__law_draw : Binds K fd__law_draw ["well", "many"] [] := F__law_draw.bindsN fun _ _ _ _ _ _ us hl => match us, hl with | [_, _], _ => rfl
  have g__law_draw : mg "_law_draw" = some (.ref (He.ga K "_law_draw")) := He.glo_ok X0 G (c.fact 19 rfl)
  obtain ⟨fd__law_bent_signs, F__law_bent_signs, O__law_bent_signs⟩ := ok__law_bent_signs (P := P) (w := w) (base := base) X0 G c cx
  have b__law_bent_signs : Binds K fd__law_bent_signs ["well", "text"] [] := F__law_bent_signs.bindsN fun _ _ _ _ _ _ us hl => match us, hl with | [_, _], _ => rfl
  have g__law_bent_signs : mg "_law_bent_signs" = some (.ref (He.ga K "_law_bent_signs")) := He.glo_ok X0 G (c.fact 29 rfl)
  obtain ⟨fd__law_met, F__law_met, O__law_met⟩ := ok__law_met (P := P) (w := w) (base := base) X0 G c cx
  have b__law_met : Binds K fd__law_met ["well", "text"] [] := F__law_met.bindsN fun _ _ _ _ _ _ us hl => match us, hl with | [_, _], _ => rfl
  have g__law_met : mg "_law_met" = some (.ref (He.ga K "_law_met")) := He.glo_ok X0 G (c.fact 39 rfl)
  obtain ⟨fd__law_bent_parts, F__law_bent_parts, O__law_bent_parts⟩ := ok__law_bent_parts (P := P) (w := w) (base := base) X0 G c cx
  have b__law_bent_parts : Binds K fd__law_bent_parts ["well", "text", "between", "odd"] [] := F__law_bent_parts.bindsN fun _ _ _ _ _ _ us hl => match us, hl with | [_, _, _, _], _ => rfl
  have g__law_bent_parts : mg "_law_bent_parts" = some (.ref (He.ga K "_law_bent_parts")) := He.glo_ok X0 G (c.fact 30 rfl)
  obtain ⟨fd__law_odd_word, F__law_odd_word, O__law_odd_word⟩ := ok__law_odd_word (P := P) (w := w) (base := base) X0 G c cx
  have b__law_odd_word : Binds K fd__law_odd_word ["well"] [] := F__law_odd_word.bindsN fun _ _ _ _ _ _ us hl => match us, hl with | [_], _ => rfl
  have g__law_odd_word : mg "_law_odd_word" = some (.ref (He.ga K "_law_odd_word")) := He.glo_ok X0 G (c.fact 28 rfl)
  have f_range : mg "range" = none := He.free_ok X0 G (c.fact 52 rfl)
  obtain ⟨fd, F⟩ := c.def_ 40 (d := d__law_bent) rfl
  refine ⟨fd, F, fn_ok (k := 3) F sc__law_bent fun cdv A outer s H E hr B => ?_⟩
  have hp : PassesOwn (model P w) _ _ _ := passes_of (X := cxOf (L2N.CX P w) P w K mg base N__law_bent "_law_bent" (defScope s__law_bent) (He.ga K "_law_bent") cdv A outer s H E) (K := fun e s'' => L2N.CX P w outer H s E e s'') rfl
  have tk := L2N.takes_of (X := cxOf (L2N.CX P w) P w K mg base N__law_bent "_law_bent" (defScope s__law_bent) (He.ga K "_law_bent") cdv A outer s H E) (E := E) rfl rfl rfl rfl
  have nd := sc__law_bent.nd
  exact (qcons (qfor (ws := [2]) hp rfl (qir1 rfl f_range (qa_cons (qix (qlst (qa_cons qint (qa_cons qint (qa_cons qint (qa_cons qint (qa_cons qint (qa_cons qint qa_nil))))))) (qcall O__law_draw (hr.mono (by decide)) rfl g__law_draw F__law_draw.kp b__law_draw (fun σ => L2N.passAt tk σ) (qa_cons (qvar (i := 0) rfl (.inl rfl)) (qa_cons qint qa_nil)))) qa_nil)) (fun B => (qgn (i := 2) nd rfl (.inl rfl) (by decide))) (fun B => (qcons (qset (i := 3) nd rfl (.inl rfl) (qcall O__law_draw (hr.mono (by decide)) rfl g__law_draw F__law_draw.kp b__law_draw (fun σ => L2N.passAt tk σ) (qa_cons (qvar (i := 0) rfl (.inl rfl)) (qa_cons qint qa_nil)))) (qone (qif (qtcmp op_lt does_lt (qvar (i := 3) rfl (.inl rfl)) qint) (qone (qset (i := 1) nd rfl (.inl rfl) (qcall O__law_bent_signs (hr.mono (by decide)) rfl g__law_bent_signs F__law_bent_signs.kp b__law_bent_signs (fun σ => L2N.passAt tk σ) (qa_cons (qvar (i := 0) rfl (.inl rfl)) (qa_cons (qvar (i := 1) rfl (.inl rfl)) qa_nil))))) (qone (qif (qtcmp (op_eqD hr.units) does_eq (qvar (i := 3) rfl (.inl rfl)) qint) (qone (qset (i := 1) nd rfl (.inl rfl) (qcall O__law_met (hr.mono (by decide)) rfl g__law_met F__law_met.kp b__law_met (fun σ => L2N.passAt tk σ) (qa_cons (qvar (i := 0) rfl (.inl rfl)) (qa_cons (qvar (i := 1) rfl (.inl rfl)) qa_nil))))) (qone (qif (qtcmp op_lt does_lt (qvar (i := 3) rfl (.inl rfl)) qint) (qone (qset (i := 1) nd rfl (.inl rfl) (qcall O__law_bent_parts (hr.mono (by decide)) rfl g__law_bent_parts F__law_bent_parts.kp b__law_bent_parts (fun σ => L2N.passAt tk σ) (qa_cons (qvar (i := 0) rfl (.inl rfl)) (qa_cons (qvar (i := 1) rfl (.inl rfl)) (qa_cons qstr (qa_cons (qcall O__law_odd_word (hr.mono (by decide)) rfl g__law_odd_word F__law_odd_word.kp b__law_odd_word (fun σ => L2N.passAt tk σ) (qa_cons (qvar (i := 0) rfl (.inl rfl)) qa_nil)) qa_nil))))))) (qone (qif (qtcmp (op_eqD hr.units) does_eq (qvar (i := 3) rfl (.inl rfl)) qint) (qcons (qset (i := 4) nd rfl (.inl rfl) (qix (qlst (qa_cons qstr (qa_cons qstr (qa_cons qstr (qa_cons qstr (qa_cons qstr (qa_cons qstr qa_nil))))))) (qcall O__law_draw (hr.mono (by decide)) rfl g__law_draw F__law_draw.kp b__law_draw (fun σ => L2N.passAt tk σ) (qa_cons (qvar (i := 0) rfl (.inl rfl)) (qa_cons qint qa_nil))))) (qone (qset (i := 1) nd rfl (.inl rfl) (qcall O__law_bent_parts (hr.mono (by decide)) rfl g__law_bent_parts F__law_bent_parts.kp b__law_bent_parts (fun σ => L2N.passAt tk σ) (qa_cons (qvar (i := 0) rfl (.inl rfl)) (qa_cons (qvar (i := 1) rfl (.inl rfl)) (qa_cons qstr (qa_cons (qvar (i := 4) rfl (.inl rfl)) qa_nil)))))))) (qone (qif (qtcmp (op_eqD hr.units) does_eq (qvar (i := 3) rfl (.inl rfl)) qint) (qone (qset (i := 1) nd rfl (.inl rfl) (qcall O__law_bent_parts (hr.mono (by decide)) rfl g__law_bent_parts F__law_bent_parts.kp b__law_bent_parts (fun σ => L2N.passAt tk σ) (qa_cons (qvar (i := 0) rfl (.inl rfl)) (qa_cons (qvar (i := 1) rfl (.inl rfl)) (qa_cons qstr (qa_cons (qix (qlst (qa_cons qstr (qa_cons qstr (qa_cons qstr (qa_cons qstr (qa_cons qstr qa_nil)))))) (qcall O__law_draw (hr.mono (by decide)) rfl g__law_draw F__law_draw.kp b__law_draw (fun σ => L2N.passAt tk σ) (qa_cons (qvar (i := 0) rfl (.inl rfl)) (qa_cons qint qa_nil)))) qa_nil))))))) (qone (qset (i := 1) nd rfl (.inl rfl) (qop op_add4 does_add (qop op_add4 does_add (qvar (i := 1) rfl (.inl rfl)) qstr) (qix (qlst (qa_cons qstr (qa_cons qstr (qa_cons qstr (qa_cons (qslS (qvar (i := 1) rfl (.inl rfl)) qpn (qps qint)) (qa_cons qstr (qa_cons qstr qa_nil))))))) (qcall O__law_draw (hr.mono (by decide)) rfl g__law_draw F__law_draw.kp b__law_draw (fun σ => L2N.passAt tk σ) (qa_cons (qvar (i := 0) rfl (.inl rfl)) (qa_cons qint qa_nil)))))))))))))))))))) (qone (qret (qvar (i := 1) rfl (.inl rfl)))))
abbrev N_law : List Str := ["script", "rows", "place", "well", "kind", "text", "door", "due"]
theorem sc_law : FnScope N_law ["script"] (defScope s_law) := ⟨rfl, rfl, rfl, by decide +kernel, rfl, by decide +kernel, by decide +kernel⟩
theorem ok_law (X0 : K.In h) (G : h.Ns mainGlobals mg) (c : He.SaysD fa fn K) (cx : exB (["ThreadError", "Unreadable"] : List Str) K = true) : ∃ fd, FunD K "law" "law" (defArgs s_law) (defBody s_law) (defScope s_law) [] [] (He.ga K "law") fd ∧ FnOk P w K mg base (L2N.CX P w) 10 (He.ga K "law") fd ["script"] (spF K 1 m_law) := by
  obtain ⟨fd__law_well, F__law_well, O__law_well⟩ := ok__law_well (P := P) (w := w) (base := base) X0 G c cx
  have b__law_well : Binds K fd__law_well ["script", "place"] [] := F__law_well.bindsN fun _ _ _ _ _ _ us hl => match us, hl with | [_, _], _ => rfl
  have g__law_well : mg "_law_well" = some (.ref (He.ga K "_law_well")) := He.glo_ok X0 G (c.fact 18 rfl)
  obtain ⟨fd__law_bent, F__law_bent, O__law_bent⟩ := ok__law_bent (P := P) (w := w) (base := base) X0 G c cx
  have b__law_bent : Binds K fd__law_bent ["well", "text"] [] := F__law_bent.bindsN fun _ _ _ _ _ _ us hl => match us, hl with | [_, _], _ => rfl
  have g__law_bent : mg "_law_bent" = some (.ref (He.ga K "_law_bent")) := He.glo_ok X0 G (c.fact 40 rfl)
  obtain ⟨fd__law_due, F__law_due, O__law_due⟩ := ok__law_due (P := P) (w := w) (base := base) X0 G c cx
  have b__law_due : Binds K fd__law_due ["door", "text"] [] := F__law_due.bindsN fun _ _ _ _ _ _ us hl => match us, hl with | [_, _], _ => rfl
  have g__law_due : mg "_law_due" = some (.ref (He.ga K "_law_due")) := He.glo_ok X0 G (c.fact 36 rfl)
  obtain ⟨fd__law_same, F__law_same, O__law_same⟩ := ok__law_same (P := P) (w := w) (base := base) X0 G c cx 8
  have b__law_same : Binds K fd__law_same ["told", "due"] [] := F__law_same.bindsN fun _ _ _ _ _ _ us hl => match us, hl with | [_, _], _ => rfl
  have g__law_same : mg "_law_same" = some (.ref (He.ga K "_law_same")) := He.glo_ok X0 G (c.fact 20 rfl)
  obtain ⟨fd__law_draw, F__law_draw, O__law_draw⟩ := ok__law_draw (P := P) (w := w) (base := base) X0 G c cx
  have b__law_draw : Binds K fd__law_draw ["well", "many"] [] := F__law_draw.bindsN fun _ _ _ _ _ _ us hl => match us, hl with | [_, _], _ => rfl
  have g__law_draw : mg "_law_draw" = some (.ref (He.ga K "_law_draw")) := He.glo_ok X0 G (c.fact 19 rfl)
  obtain ⟨fd__law_told, F__law_told, O__law_told⟩ := ok__law_told (P := P) (w := w) (base := base) X0 G c cx
  have b__law_told : Binds K fd__law_told ["door", "text", "named"] [] := F__law_told.bindsN fun _ _ _ _ _ _ us hl => match us, hl with | [_, _, _], _ => rfl
  have g__law_told : mg "_law_told" = some (.ref (He.ga K "_law_told")) := He.glo_ok X0 G (c.fact 38 rfl)
  obtain ⟨fd__law_door, F__law_door, O__law_door⟩ := ok__law_door (P := P) (w := w) (base := base) X0 G c cx
  have b__law_door : Binds K fd__law_door ["well", "door", "digits", "most"] [] := F__law_door.bindsN fun _ _ _ _ _ _ us hl => match us, hl with | [_, _, _, _], _ => rfl
  have g__law_door : mg "_law_door" = some (.ref (He.ga K "_law_door")) := He.glo_ok X0 G (c.fact 24 rfl)
  have f_len : mg "len" = none := He.free_ok X0 G (c.fact 48 rfl)
  have f_max : mg "max" = none := He.free_ok X0 G (c.fact 50 rfl)
  have f_min : mg "min" = none := He.free_ok X0 G (c.fact 51 rfl)
  have f_range : mg "range" = none := He.free_ok X0 G (c.fact 52 rfl)
  obtain ⟨fd, F⟩ := c.def_ 41 (d := d_law) rfl
  refine ⟨fd, F, fn_ok (k := 9) F sc_law fun cdv A outer s H E hr B => ?_⟩
  have hp : PassesOwn (model P w) _ _ _ := passes_of (X := cxOf (L2N.CX P w) P w K mg base N_law "law" (defScope s_law) (He.ga K "law") cdv A outer s H E) (K := fun e s'' => L2N.CX P w outer H s E e s'') rfl
  have tk := L2N.takes_of (X := cxOf (L2N.CX P w) P w K mg base N_law "law" (defScope s_law) (He.ga K "law") cdv A outer s H E) (E := E) rfl rfl rfl rfl
  have nd := sc_law.nd
  exact (qcons (qset (i := 1) nd rfl (.inl rfl) (qlst qa_nil)) (qcons (qfor (ws := [2]) hp rfl (qir1 rfl f_range (qa_cons (qfnB (call_max2 rfl) does_max2 rfl f_max boot_max (qa_cons qint (qa_cons (qfnB (call_min2 rfl) does_min2 rfl f_min boot_min (qa_cons qint (qa_cons (qfnB call_len_seq does_len rfl f_len boot_len (qa_cons (qvar (i := 0) rfl (.inl rfl)) qa_nil)) qa_nil))) qa_nil))) qa_nil)) (fun B => (qgn (i := 2) nd rfl (.inl rfl) (by decide))) (fun B => (qcons (qset (i := 3) nd rfl (.inl rfl) (qcall O__law_well (hr.mono (by decide)) rfl g__law_well F__law_well.kp b__law_well (fun σ => L2N.passAt tk σ) (qa_cons (qvar (i := 0) rfl (.inl rfl)) (qa_cons (qvar (i := 2) rfl (.inl rfl)) qa_nil)))) (qone (qfor (ws := [4]) hp rfl (qiof (qlst (qa_cons qint (qa_cons qint (qa_cons qint (qa_cons qint (qa_cons qint qa_nil))))))) (fun B => (qgn (i := 4) nd rfl (.inl rfl) (by decide))) (fun B => (qcons (qset (i := 5) nd rfl (.inl rfl) (qcall O__law_bent (hr.mono (by decide)) rfl g__law_bent F__law_bent.kp b__law_bent (fun σ => L2N.passAt tk σ) (qa_cons (qvar (i := 3) rfl (.inl rfl)) (qa_cons (qix (qcall O__law_door (hr.mono (by decide)) rfl g__law_door F__law_door.kp b__law_door (fun σ => L2N.passAt tk σ) (qa_cons (qvar (i := 3) rfl (.inl rfl)) (qa_cons (qvar (i := 4) rfl (.inl rfl)) (qa_cons (qix (qlst (qa_cons qint (qa_cons qint qa_nil))) (qcall O__law_draw (hr.mono (by decide)) rfl g__law_draw F__law_draw.kp b__law_draw (fun σ => L2N.passAt tk σ) (qa_cons (qvar (i := 3) rfl (.inl rfl)) (qa_cons qint qa_nil)))) (qa_cons qint qa_nil))))) qint) qa_nil)))) (qcons (qif_tok (qtk_and (op_eqD hr.units) does_eq (qvar (i := 4) rfl (.inl rfl)) (qtcmp (op_eqD hr.units) does_eq (qcall O__law_draw (hr.mono (by decide)) rfl g__law_draw F__law_draw.kp b__law_draw (fun σ => L2N.passAt tk σ) (qa_cons (qvar (i := 3) rfl (.inl rfl)) (qa_cons qint qa_nil))) qint)) (qset_tok (i := 5) nd rfl (.inl rfl) (qrepl (qvar (i := 5) rfl (.inl rfl)) (qcall O__law_draw (hr.mono (by decide)) rfl g__law_draw F__law_draw.kp b__law_draw (fun σ => L2N.passAt tk σ) (qa_cons (qvar (i := 3) rfl (.inl rfl)) (qa_cons qint qa_nil))))) qnil) (qcons (qset (i := 6) nd rfl (.inl rfl) (qifx (qtcmp op_gt does_gt (qcall O__law_draw (hr.mono (by decide)) rfl g__law_draw F__law_draw.kp b__law_draw (fun σ => L2N.passAt tk σ) (qa_cons (qvar (i := 3) rfl (.inl rfl)) (qa_cons qint qa_nil))) qint) (qvar (i := 4) rfl (.inl rfl)) (qcall O__law_draw (hr.mono (by decide)) rfl g__law_draw F__law_draw.kp b__law_draw (fun σ => L2N.passAt tk σ) (qa_cons (qvar (i := 3) rfl (.inl rfl)) (qa_cons qint qa_nil))))) (qcons (qset (i := 7) nd rfl (.inl rfl) (qcall O__law_due (hr.mono (by decide)) rfl g__law_due F__law_due.kp b__law_due (fun σ => L2N.passAt tk σ) (qa_cons (qvar (i := 6) rfl (.inl rfl)) (qa_cons (qvar (i := 5) rfl (.inl rfl)) qa_nil)))) (qcons (qif (qtnot (qtval (qcall O__law_same (hr.mono (by decide)) rfl g__law_same F__law_same.kp b__law_same (fun σ => L2N.passAt tk σ) (qa_cons (qcall O__law_told (hr.mono (by decide)) rfl g__law_told F__law_told.kp b__law_told (fun σ => L2N.passAt tk σ) (qa_cons (qvar (i := 6) rfl (.inl rfl)) (qa_cons (qvar (i := 5) rfl (.inl rfl)) (qa_cons (qcmp (op_eqD hr.units) does_eq (qcall O__law_draw (hr.mono (by decide)) rfl g__law_draw F__law_draw.kp b__law_draw (fun σ => L2N.passAt tk σ) (qa_cons (qvar (i := 3) rfl (.inl rfl)) (qa_cons qint qa_nil))) qint) qa_nil)))) (qa_cons (qvar (i := 7) rfl (.inl rfl)) qa_nil))))) (qone (qret qbl)) qnil) (qone (qexpr (qmeth (i := 1) PySem.F.slot_list_append PySem.F.type_list_append mt_append does_append rfl (.inl rfl) (qa_cons (qtup (qa_cons (qvar (i := 6) rfl (.inl rfl)) (qa_cons (qvar (i := 5) rfl (.inl rfl)) (qa_cons (qvar (i := 7) rfl (.inl rfl)) qa_nil)))) qa_nil))))))))))))))) (qcons (qfor (ws := [6, 5, 7]) hp rfl (qiof (qrev (qvar (i := 1) rfl (.inl rfl)))) (fun B => (qgt rfl (qgscons (qgn (i := 6) nd rfl (.inl rfl) (by decide)) (qgscons (qgn (i := 5) nd rfl (.inl rfl) (by decide)) (qgscons (qgn (i := 7) nd rfl (.inl rfl) (by decide)) qgsnil))))) (fun B => (qone (qif (qtnot (qtval (qcall O__law_same (hr.mono (by decide)) rfl g__law_same F__law_same.kp b__law_same (fun σ => L2N.passAt tk σ) (qa_cons (qcall O__law_told (hr.mono (by decide)) rfl g__law_told F__law_told.kp b__law_told (fun σ => L2N.passAt tk σ) (qa_cons (qvar (i := 6) rfl (.inl rfl)) (qa_cons (qvar (i := 5) rfl (.inl rfl)) (qa_cons (qcmp op_lt does_lt (qfnB call_len_str does_lenS rfl f_len boot_len (qa_cons (qvar (i := 5) rfl (.inl rfl)) qa_nil)) qint) qa_nil)))) (qa_cons (qvar (i := 7) rfl (.inl rfl)) qa_nil))))) (qone (qret qbl)) qnil)))) (qone (qret qbl)))))
end
end Lw
set_option linter.all false
set_option maxRecDepth 100000
namespace Pu
open PySem PySem.Spec Ev
inductive F2 {α β : Type} (P : α → β → Prop) : List α → List β → Prop
  | nil : F2 P [] []
  | cons {a b as bs} : P a b → F2 P as bs → F2 P (a :: as) (b :: bs)
theorem F2.len {α β : Type} {P : α → β → Prop} : ∀ {as : List α} {bs : List β}, F2 P as bs → as.length = bs.length
  | _, _, .nil => rfl
  | _, _, .cons _ h => by rw [List.length_cons, List.length_cons, h.len]
theorem F2.get {α β : Type} {P : α → β → Prop} : ∀ {as : List α} {bs : List β} {i : Nat} {a : α} {b : β}, F2 P as bs → as[i]? = some a → bs[i]? = some b → P a b
  | _, _, i, a, b, .nil, h, _ => by simp at h
  | _, _, 0, a, b, .cons p _, h, h' => by simp at h h'; rw [← h, ← h']; exact p
  | _, _, i + 1, a, b, .cons _ q, h, h' => q.get (by simpa using h) (by simpa using h')
theorem F2.right {α β : Type} {P : α → β → Prop} : ∀ {as : List α} {bs : List β}, F2 P as bs → ∀ b ∈ bs, ∃ a ∈ as, P a b
  | _, _, .nil, b, h => by simp at h
  | _, _, .cons p q, b, h => by
    rcases List.mem_cons.mp h with rfl | h
    · exact ⟨_, List.mem_cons_self, p⟩
    · obtain ⟨a, m, z⟩ := q.right b h; exact ⟨a, List.mem_cons_of_mem _ m, z⟩
/-! ### pure: what loops and comprehensions do -/
/-! ### ranges -/
/-! ### numerals -/
theorem c0 : ((0 : Nat) : Int) = 0 := rfl
theorem c1 : ((1 : Nat) : Int) = 1 := rfl
theorem c2 : ((2 : Nat) : Int) = 2 := rfl
theorem c3 : ((3 : Nat) : Int) = 3 := rfl
theorem c4 : ((4 : Nat) : Int) = 4 := rfl
theorem c5 : ((5 : Nat) : Int) = 5 := rfl
theorem c6 : ((6 : Nat) : Int) = 6 := rfl
theorem c7 : ((7 : Nat) : Int) = 7 := rfl
theorem c8 : ((8 : Nat) : Int) = 8 := rfl
theorem c9 : ((9 : Nat) : Int) = 9 := rfl
theorem s1 : (1 ≤ sizeLine) = True := eq_true (by unfold sizeLine; omega)
theorem s2 : (2 ≤ sizeLine) = True := eq_true (by unfold sizeLine; omega)
theorem s3 : (3 ≤ sizeLine) = True := eq_true (by unfold sizeLine; omega)
theorem s4 : (4 ≤ sizeLine) = True := eq_true (by unfold sizeLine; omega)
theorem s5 : (5 ≤ sizeLine) = True := eq_true (by unfold sizeLine; omega)
theorem s6 : (6 ≤ sizeLine) = True := eq_true (by unfold sizeLine; omega)
theorem s7 : (7 ≤ sizeLine) = True := eq_true (by unfold sizeLine; omega)
theorem s8 : (8 ≤ sizeLine) = True := eq_true (by unfold sizeLine; omega)
theorem s9 : (9 ≤ sizeLine) = True := eq_true (by unfold sizeLine; omega)
/-! ### equality -/
theorem gEq_int (k : Bool → Bool) (i j : Int) : gEq k (.int i) (.int j) = some (.r (.bool (k (decide (i = j))))) := rfl
def lentS : Sl → Bool
  | .ow true _ => true
  | .fz _ => true
  | _ => false
theorem lentS_v (t : T) : lentS (.v t) = false := rfl
theorem lentS_un : lentS .un = false := rfl
theorem lentS_f (b : Bx) : lentS (.ow false b) = false := rfl
theorem lentS_t (b : Bx) : lentS (.ow true b) = true := rfl
theorem lentS_z (b : Bx) : lentS (.fz b) = true := rfl
def lentO : Option Sl → Bool
  | some s => lentS s
  | none => false
theorem isLent_eq (e : En) (i : Nat) : isLent e i = lentO e[i]? := by
  unfold isLent
  cases e[i]? with
  | none => rfl
  | some s => cases s with
    | ow l b => cases l <;> rfl
    | _ => rfl
theorem gAll_bools (bs : List Bool) : gAll [.list (bs.map .bool)] = some (.r (.bool (bs.all id))) := by
  have : bools (bs.map .bool) = some bs := by
    induction bs with
    | nil => rfl
    | cons b bs ih => rw [List.map_cons, bools, ih]; try rfl
  show Option.map _ (bools _) = _
  rw [this]
  rfl
end Pu

set_option Elab.async false
set_option linter.all false
set_option maxRecDepth 100000
namespace Wp
open PySem PySem.Spec Ev Pu
/-! ### what a run yields, and what is wanted of it -/
def W {α : Type} (o : Out α) (Q : α → En → Prop) : Prop := ∃ a e, o = .ok a e ∧ Q a e
theorem w_of {α : Type} {o : Out α} {a : α} {e : En} {Q : α → En → Prop} (h : o = .ok a e) (q : Q a e) : W o Q := ⟨a, e, h, q⟩
theorem w_imp {α : Type} {o : Out α} {P Q : α → En → Prop} (h : W o P) (q : ∀ a e, P a e → Q a e) : W o Q := by
  obtain ⟨a, e, h, p⟩ := h
  exact ⟨a, e, h, q a e p⟩
theorem w_bind {α β : Type} {o : Out α} {f : α → En → Out β} {Q : β → En → Prop} (h : W o fun a e => W (f a e) Q) : W (o.bind f) Q := by
  obtain ⟨a, e, h, b, e2, h2, q⟩ := h
  exact ⟨b, e2, by rw [h]; exact h2, q⟩
/-! ### statements -/
def KSeq (b : SemS) (Q : Fl → En → Prop) : Fl → En → Prop := fun fl e => match fl with
  | .nx => W (b e) Q
  | fl => Q fl e
theorem kseq_nx {b : SemS} {Q : Fl → En → Prop} {e : En} (h : W (b e) Q) : KSeq b Q .nx e := h
theorem kseq_rt {b : SemS} {Q : Fl → En → Prop} {e : En} {r : Od} (h : Q (.rt r) e) : KSeq b Q (.rt r) e := h
theorem kseq_bk {b : SemS} {Q : Fl → En → Prop} {e : En} (h : Q .bk e) : KSeq b Q .bk e := h
theorem kseq_ct {b : SemS} {Q : Fl → En → Prop} {e : En} (h : Q .ct e) : KSeq b Q .ct e := h
theorem w_seq {a b : SemS} {Q : Fl → En → Prop} {e : En} (h : W (a e) (KSeq b Q)) : W (sSeq a b e) Q := by
  obtain ⟨fl, e1, h, k⟩ := h
  unfold sSeq
  rw [h]
  cases fl with
  | nx => exact k
  | rt r => exact ⟨_, _, rfl, k⟩
  | bk => exact ⟨_, _, rfl, k⟩
  | ct => exact ⟨_, _, rfl, k⟩
theorem w_nil {Q : Fl → En → Prop} {e : En} (h : Q .nx e) : W (sNil e) Q := ⟨_, _, rfl, h⟩
theorem w_brk {Q : Fl → En → Prop} {e : En} (h : Q .bk e) : W (sBrk e) Q := ⟨_, _, rfl, h⟩
theorem w_cnt {Q : Fl → En → Prop} {e : En} (h : Q .ct e) : W (sCnt e) Q := ⟨_, _, rfl, h⟩
theorem w_drop {m : SemE} {Q : Fl → En → Prop} {e : En} (h : W (m e) fun _ e1 => Q .nx e1) : W (sDrop m e) Q :=
  w_bind (w_imp h fun _ _ q => ⟨_, _, rfl, q⟩)
def KIf (m1 m2 : SemS) (Q : Fl → En → Prop) : Bool → En → Prop := fun k e => (k = true → W (m1 e) Q) ∧ (k = false → W (m2 e) Q)
theorem w_if {c : SemT} {m1 m2 : SemS} {Q : Fl → En → Prop} {e : En} (h : W (c e) (KIf m1 m2 Q)) : W (sIf c m1 m2 e) Q :=
  w_bind (w_imp h fun k e1 q => by
    cases k with
    | true => exact q.1 rfl
    | false => exact q.2 rfl)
theorem kif_t {m1 m2 : SemS} {Q : Fl → En → Prop} {k : Bool} {e : En} (hk : k = true) (h : W (m1 e) Q) : KIf m1 m2 Q k e := ⟨fun _ => h, fun z => (by rw [hk] at z; cases z)⟩
theorem kif_f {m1 m2 : SemS} {Q : Fl → En → Prop} {k : Bool} {e : En} (hk : k = false) (h : W (m2 e) Q) : KIf m1 m2 Q k e := ⟨fun z => (by rw [hk] at z; cases z), fun _ => h⟩
theorem kif_d {m1 m2 : SemS} {Q : Fl → En → Prop} {p : Prop} [Decidable p] {e : En} (h1 : p → W (m1 e) Q) (h2 : ¬ p → W (m2 e) Q) : KIf m1 m2 Q (decide p) e := ⟨fun h => h1 (of_decide_eq_true h), fun h => h2 (of_decide_eq_false h)⟩
def KSet (i : Nat) (Q : Fl → En → Prop) : Od → En → Prop := fun r e => W (setO i r e) Q
theorem w_set {i : Nat} {m : SemE} {Q : Fl → En → Prop} {e : En} (h : W (m e) (KSet i Q)) : W (sSet i m e) Q := w_bind h
theorem isLent_of {e : En} {i : Nat} {l : Sl} (h : e[i]? = some l) (h2 : lentS l = false) : isLent e i = false := by rw [isLent_eq, h]; exact h2
theorem kset_r {i : Nat} {Q : Fl → En → Prop} {t : T} {e : En} (hl : isLent e i = false) (h : Q .nx (e.set i (.v t))) : KSet i Q (.r t) e := ⟨_, _, by unfold setO; rw [hl]; rfl, h⟩
theorem kset_b {i : Nat} {Q : Fl → En → Prop} {z : Bx} {e : En} (hl : isLent e i = false) (h : Q .nx (e.set i (.ow false z))) : KSet i Q (.b z) e := ⟨_, _, by unfold setO; rw [hl]; rfl, h⟩
theorem kset_s {i j : Nat} {Q : Fl → En → Prop} {t : T} {e e' : En} (hl : isLent e i = false) (he : esc (.s j) e = some (t, e')) (h : Q .nx (e'.set i (.v t))) : KSet i Q (.s j) e := ⟨_, _, by
  unfold setO; rw [hl]; simp only [he]; rfl, h⟩
def KRet (Q : Fl → En → Prop) : Od → En → Prop := fun r e => W (retO r e) Q
theorem w_ret {m : SemE} {Q : Fl → En → Prop} {e : En} (h : W (m e) (KRet Q)) : W (sRet m e) Q := w_bind h
theorem w_retN {Q : Fl → En → Prop} {e : En} (h : Q (.rt (.r .none)) e) : W (sRetN e) Q := ⟨_, _, rfl, h⟩
theorem kret_r {Q : Fl → En → Prop} {t : T} {e : En} (h : Q (.rt (.r t)) e) : KRet Q (.r t) e := ⟨_, _, rfl, h⟩
theorem kret_b {Q : Fl → En → Prop} {z : Bx} {e : En} (h : Q (.rt (.b z)) e) : KRet Q (.b z) e := ⟨_, _, rfl, h⟩
theorem kret_so {Q : Fl → En → Prop} {i : Nat} {z : Bx} {e : En} (hi : e[i]? = some (.ow false z)) (h : Q (.rt (.b z)) (e.set i .un)) : KRet Q (.s i) e := ⟨_, _, by unfold retO; simp only [hi], h⟩
def KAsg (g : SemG) (Q : Fl → En → Prop) : Od → En → Prop := fun r e => ∃ t e2, esc r e = some (t, e2) ∧ ∃ e3, g t e2 = some e3 ∧ Q .nx e3
theorem w_asg {g : SemG} {m : SemE} {Q : Fl → En → Prop} {e : En} (h : W (m e) (KAsg g Q)) : W (sAsg g m e) Q :=
  w_bind (w_imp h fun r e1 ⟨t, e2, h1, e3, h2, q⟩ => ⟨_, _, by simp only [h1, h2], q⟩)
theorem kasg {g : SemG} {Q : Fl → En → Prop} {r : Od} {e e2 e3 : En} {t : T} (h1 : esc r e = some (t, e2)) (h2 : g t e2 = some e3) (q : Q .nx e3) : KAsg g Q r e := ⟨t, e2, h1, e3, h2, q⟩
def KPar (is : List Nat) (Q : Fl → En → Prop) : List Od → En → Prop := fun rs e => ∃ rs' e2, presc rs e = some (rs', e2) ∧ ∃ e3, setOs is rs' e2 = some e3 ∧ Q .nx e3
theorem w_par {is : List Nat} {m : SemA} {Q : Fl → En → Prop} {e : En} (h : W (m e) (KPar is Q)) : W (sPar is m e) Q :=
  w_bind (w_imp h fun rs e1 ⟨rs', e2, h1, e3, h2, q⟩ => ⟨_, _, by simp only [h1, h2], q⟩)
theorem kpar {is : List Nat} {Q : Fl → En → Prop} {rs rs' : List Od} {e e2 e3 : En} (h1 : presc rs e = some (rs', e2)) (h2 : setOs is rs' e2 = some e3) (q : Q .nx e3) : KPar is Q rs e := ⟨rs', e2, h1, e3, h2, q⟩
theorem setOs_nil {e e' : En} (h : e' = e) : setOs [] [] e = some e' := by rw [h]; rfl
theorem setOs_r {i : Nat} {is : List Nat} {t : T} {rs : List Od} {e e' : En} (hl : isLent e i = false) (h : setOs is rs (e.set i (.v t)) = some e') : setOs (i :: is) (.r t :: rs) e = some e' := by
  unfold setOs setO; rw [hl]; exact h
theorem setOs_b {i : Nat} {is : List Nat} {z : Bx} {rs : List Od} {e e' : En} (hl : isLent e i = false) (h : setOs is rs (e.set i (.ow false z)) = some e') : setOs (i :: is) (.b z :: rs) e = some e' := by
  unfold setOs setO; rw [hl]; exact h
theorem gN_ok {i : Nat} {t : T} {e e' : En} (hl : isLent e i = false) (h : e' = e.set i (.v t)) : gN i t e = some e' := by unfold gN; rw [hl, h]; rfl
theorem gsNil_ok {e e' : En} (h : e' = e) : gsNil [] e = some e' := by rw [h]; rfl
theorem gsCons_ok {g : SemG} {gs : SemGs} {t : T} {ts : List T} {e e1 e' : En} (h1 : g t e = some e1) (h2 : gs ts e1 = some e') : gsCons g gs (t :: ts) e = some e' := by unfold gsCons; simp only [h1, h2]
theorem gT_ok {n : Nat} {gs : SemGs} {ts : List T} {e e' : En} (hn : ts.length = n) (h : gs ts e = some e') : gT n gs (.tuple ts) e = some e' := by unfold gT; simp only [hn, h, if_true]
def KAug (i : Nat) (t : T) (g : T → T → Option Od) (Q : Fl → En → Prop) : Od → En → Prop := fun r e => ∃ u k, r.val e = some u ∧ g t u = some (.r (.int k)) ∧ isLent e i = false ∧ Q .nx (e.set i (.v (.int k)))
theorem w_aug {i : Nat} {g : T → T → Option Od} {m : SemE} {Q : Fl → En → Prop} {e : En} {t : T} (hi : e[i]? = some (.v t)) (h : W (m e) (KAug i t g Q)) : W (sAug i g m e) Q := by
  unfold sAug
  simp only [hi]
  exact w_bind (w_imp h fun r e1 ⟨u, k, h1, h2, h3, q⟩ => ⟨_, _, by simp only [h1, h2, setO, h3]; rfl, q⟩)
theorem kaug {i : Nat} {t u : T} {g : T → T → Option Od} {Q : Fl → En → Prop} {r : Od} {e : En} {k : Int} (h1 : r.val e = some u) (h2 : g t u = some (.r (.int k))) (h3 : isLent e i = false) (q : Q .nx (e.set i (.v (.int k)))) : KAug i t g Q r e := ⟨u, k, h1, h2, h3, q⟩
def KSetIx2 (i : Nat) (r : Od) (Q : Fl → En → Prop) : Od → En → Prop := fun ri e2 => ∃ k t e3 l ts j, ri.val e2 = some (.int k) ∧ esc r e2 = some (t, e3) ∧ e3[i]? = some (.ow l (.l ts)) ∧ L2.ixN ts.length k = some j ∧ Q .nx (e3.set i (.ow l (.l (ts.set j t))))
def KSetIx1 (i : Nat) (mi : SemE) (Q : Fl → En → Prop) : Od → En → Prop := fun r e1 => ∃ l ts, e1[i]? = some (.ow l (.l ts)) ∧ W (mi e1) (KSetIx2 i r Q)
theorem w_setix {i : Nat} {mi mv : SemE} {Q : Fl → En → Prop} {e : En} (h : W (mv e) (KSetIx1 i mi Q)) : W (sSetIx i mi mv e) Q := by
  refine w_bind (w_imp h fun r e1 ⟨l, ts, h1, h2⟩ => ?_)
  simp only [h1]
  exact w_bind (w_imp h2 fun ri e2 ⟨k, t, e3, l, ts, j, q1, q2, q3, q4, q⟩ => ⟨_, _, by simp only [q1, q2, q3, q4], q⟩)
theorem ksetix1 {i : Nat} {mi : SemE} {Q : Fl → En → Prop} {r : Od} {e1 : En} {l : Bool} {ts : List T} (h1 : e1[i]? = some (.ow l (.l ts))) (h : W (mi e1) (KSetIx2 i r Q)) : KSetIx1 i mi Q r e1 := ⟨l, ts, h1, h⟩
theorem ksetix2 {i : Nat} {Q : Fl → En → Prop} {r ri : Od} {e2 e3 : En} {k : Int} {t : T} {l : Bool} {ts : List T} {j : Nat} (q1 : ri.val e2 = some (.int k)) (q2 : esc r e2 = some (t, e3)) (q3 : e3[i]? = some (.ow l (.l ts))) (q4 : L2.ixN ts.length k = some j) (q : Q .nx (e3.set i (.ow l (.l (ts.set j t))))) :
    KSetIx2 i r Q ri e2 := ⟨k, t, e3, l, ts, j, q1, q2, q3, q4, q⟩
theorem ixN_nat {n k : Nat} (h : k < n) : L2.ixN n (k : Int) = some k := by unfold L2.ixN; simp [h]
/-! ### tests -/
def KTb (Q : Bool → En → Prop) : Od → En → Prop := fun r e => ∃ k, r.val e = some (.bool k) ∧ Q k e
theorem w_tb {m : SemE} {Q : Bool → En → Prop} {e : En} (h : W (m e) (KTb Q)) : W (tb m e) Q := w_bind (w_imp h fun r e1 ⟨k, h1, q⟩ => ⟨_, _, by simp only [h1], q⟩)
theorem ktb {Q : Bool → En → Prop} {k : Bool} {e : En} (q : Q k e) : KTb Q (.r (.bool k)) e := ⟨k, rfl, q⟩
theorem ktb_s {Q : Bool → En → Prop} {r : Od} {k : Bool} {e : En} (h : r.val e = some (.bool k)) (q : Q k e) : KTb Q r e := ⟨k, h, q⟩
theorem w_tnot {t : SemT} {Q : Bool → En → Prop} {e : En} (h : W (t e) fun k e1 => Q (!k) e1) : W (Ev.tNot t e) Q := w_bind (w_imp h fun k e1 q => ⟨_, _, rfl, q⟩)
def KAnd (t : SemT) (Q : Bool → En → Prop) : Bool → En → Prop := fun k e => (k = true → W (t e) Q) ∧ (k = false → Q false e)
theorem w_tand {t1 t2 : SemT} {Q : Bool → En → Prop} {e : En} (h : W (t1 e) (KAnd t2 Q)) : W (Ev.tAnd t1 t2 e) Q := w_bind (w_imp h fun k e1 q => by
  cases k with
  | true => exact q.1 rfl
  | false => exact ⟨_, _, rfl, q.2 rfl⟩)
theorem kand_t {t : SemT} {Q : Bool → En → Prop} {k : Bool} {e : En} (hk : k = true) (h : W (t e) Q) : KAnd t Q k e := ⟨fun _ => h, fun z => (by rw [hk] at z; cases z)⟩
theorem kand_f {t : SemT} {Q : Bool → En → Prop} {k : Bool} {e : En} (hk : k = false) (h : Q false e) : KAnd t Q k e := ⟨fun z => (by rw [hk] at z; cases z), fun _ => h⟩
def KOr (t : SemT) (Q : Bool → En → Prop) : Bool → En → Prop := fun k e => (k = true → Q true e) ∧ (k = false → W (t e) Q)
theorem w_tor {t1 t2 : SemT} {Q : Bool → En → Prop} {e : En} (h : W (t1 e) (KOr t2 Q)) : W (Ev.tOr t1 t2 e) Q := w_bind (w_imp h fun k e1 q => by
  cases k with
  | true => exact ⟨_, _, rfl, q.1 rfl⟩
  | false => exact q.2 rfl)
theorem kor_t {t : SemT} {Q : Bool → En → Prop} {k : Bool} {e : En} (hk : k = true) (h : Q true e) : KOr t Q k e := ⟨fun _ => h, fun z => (by rw [hk] at z; cases z)⟩
theorem kor_f {t : SemT} {Q : Bool → En → Prop} {k : Bool} {e : En} (hk : k = false) (h : W (t e) Q) : KOr t Q k e := ⟨fun z => (by rw [hk] at z; cases z), fun _ => h⟩
theorem w_true {Q : Bool → En → Prop} {e : En} (h : Q true e) : W (tTrue e) Q := ⟨_, _, rfl, h⟩
/-! ### expressions -/
theorem w_var_v {i : Nat} {t : T} {e : En} {Q : Od → En → Prop} (hi : e[i]? = some (.v t)) (q : Q (.r t) e) : W (eVar i e) Q := ⟨_, _, by unfold eVar; rw [hi], q⟩
theorem w_var_f {i : Nat} {z : Bx} {e : En} {Q : Od → En → Prop} (hi : e[i]? = some (.fz z)) (q : Q (.r z.t) e) : W (eVar i e) Q := ⟨_, _, by unfold eVar; rw [hi], q⟩
theorem w_var_o {i : Nat} {l : Bool} {z : Bx} {e : En} {Q : Od → En → Prop} (hi : e[i]? = some (.ow l z)) (q : Q (.s i) e) : W (eVar i e) Q := ⟨_, _, by unfold eVar; rw [hi], q⟩
theorem w_k {t : T} {e : En} {Q : Od → En → Prop} (q : Q (.r t) e) : W (eK t e) Q := ⟨_, _, rfl, q⟩
def KTwo1 (mb : SemE) (g : T → T → Option Od) (Q : Od → En → Prop) : Od → En → Prop := fun r e1 => W (mb e1) fun r2 e2 => ∃ t u w, r.val e2 = some t ∧ r2.val e2 = some u ∧ g t u = some w ∧ Q w e2
def KTwo2 (r : Od) (g : T → T → Option Od) (Q : Od → En → Prop) : Od → En → Prop := fun r2 e2 => ∃ t u w, r.val e2 = some t ∧ r2.val e2 = some u ∧ g t u = some w ∧ Q w e2
theorem w_op2 {g : T → T → Option Od} {ma mb : SemE} {Q : Od → En → Prop} {e : En} (h : W (ma e) (KTwo1 mb g Q)) : W (eOp2 g ma mb e) Q :=
  w_bind (w_imp h fun r e1 h1 => w_bind (w_imp h1 fun r2 e2 ⟨t, u, w, q1, q2, q3, q⟩ => ⟨_, _, by unfold v2; simp only [q1, q2, q3], q⟩))
theorem ktwo1 {mb : SemE} {g : T → T → Option Od} {Q : Od → En → Prop} {r : Od} {e1 : En} (h : W (mb e1) (KTwo2 r g Q)) : KTwo1 mb g Q r e1 := h
theorem ktwo2 {r r2 : Od} {g : T → T → Option Od} {Q : Od → En → Prop} {e2 : En} {t u : T} {w : Od} (h1 : r.val e2 = some t) (h2 : r2.val e2 = some u) (h3 : g t u = some w) (q : Q w e2) : KTwo2 r g Q r2 e2 := ⟨t, u, w, h1, h2, h3, q⟩
theorem w_anil {e : En} {Q : List Od → En → Prop} (q : Q [] e) : W (aNil e) Q := ⟨_, _, rfl, q⟩
def KCons1 (r : SemA) (Q : List Od → En → Prop) : Od → En → Prop := fun x e1 => W (r e1) fun xs e2 => Q (x :: xs) e2
theorem w_acons {m : SemE} {r : SemA} {Q : List Od → En → Prop} {e : En} (h : W (m e) (KCons1 r Q)) : W (aCons m r e) Q :=
  w_bind (w_imp h fun x e1 h1 => w_bind (w_imp h1 fun xs e2 q => ⟨_, _, rfl, q⟩))
theorem kcons1 {r : SemA} {Q : List Od → En → Prop} {x : Od} {e1 : En} (h : W (r e1) fun xs e2 => Q (x :: xs) e2) : KCons1 r Q x e1 := h
def KFnG (g : List T → Option Od) (Q : Od → En → Prop) : List Od → En → Prop := fun rs e1 => ∃ ts w, vals e1 rs = some ts ∧ g ts = some w ∧ Q w e1
theorem w_fng {g : List T → Option Od} {ma : SemA} {Q : Od → En → Prop} {e : En} (h : W (ma e) (KFnG g Q)) : W (eFn g ma e) Q :=
  w_bind (w_imp h fun rs e1 ⟨ts, w, h1, h2, q⟩ => ⟨_, _, by simp only [h1, h2], q⟩)
theorem kfng {g : List T → Option Od} {Q : Od → En → Prop} {rs : List Od} {e1 : En} {ts : List T} {w : Od} (h1 : vals e1 rs = some ts) (h2 : g ts = some w) (q : Q w e1) : KFnG g Q rs e1 := ⟨ts, w, h1, h2, q⟩
def KDisp (k : List T → Od) (Q : Od → En → Prop) : List Od → En → Prop := fun rs e1 => ∃ ts e2, escs rs e1 = some (ts, e2) ∧ ts.length ≤ sizeLine ∧ Q (k ts) e2
theorem w_tup {m : SemA} {Q : Od → En → Prop} {e : En} (h : W (m e) (KDisp (fun ts => .r (.tuple ts)) Q)) : W (eTup m e) Q :=
  w_bind (w_imp h fun rs e1 ⟨ts, e2, h1, h2, q⟩ => ⟨_, _, by simp only [h1, h2, if_true], q⟩)
theorem w_lst {m : SemA} {Q : Od → En → Prop} {e : En} (h : W (m e) (KDisp (fun ts => .b (.l ts)) Q)) : W (eLst m e) Q :=
  w_bind (w_imp h fun rs e1 ⟨ts, e2, h1, h2, q⟩ => ⟨_, _, by simp only [h1, h2, if_true], q⟩)
theorem kdisp_t {Q : Od → En → Prop} {rs : List Od} {e1 e2 : En} {ts : List T} (h1 : escs rs e1 = some (ts, e2)) (h2 : Nat.ble ts.length 64 = true) (q : Q (.r (.tuple ts)) e2) : KDisp (fun ts => .r (.tuple ts)) Q rs e1 := ⟨ts, e2, h1, Nat.le_trans (Nat.le_of_ble_eq_true h2) (by unfold sizeLine; omega), q⟩
theorem kdisp_l {Q : Od → En → Prop} {rs : List Od} {e1 e2 : En} {ts : List T} (h1 : escs rs e1 = some (ts, e2)) (h2 : Nat.ble ts.length 64 = true) (q : Q (.b (.l ts)) e2) : KDisp (fun ts => .b (.l ts)) Q rs e1 := ⟨ts, e2, h1, Nat.le_trans (Nat.le_of_ble_eq_true h2) (by unfold sizeLine; omega), q⟩
def KCall (n : Nat) (m : FSem) (Q : Od → En → Prop) : List Od → En → Prop := fun rs e1 => rs.length = n ∧ ∃ ss, toSls e1 rs = some ss ∧ (sIdx rs).Nodup ∧ W (m ss) fun r ss' => (∀ i, r ≠ .s i) ∧ Q r (wb rs ss' e1)
theorem callR_w {m : FSem} {rs : List Od} {e1 : En} {ss : List Sl} {Q : Od → En → Prop} (h1 : toSls e1 rs = some ss) (h2 : (sIdx rs).Nodup) (h : W (m ss) fun r ss' => (∀ i, r ≠ .s i) ∧ Q r (wb rs ss' e1)) : W (eCallR m rs e1) Q := by
  obtain ⟨r, ss', h3, h4, q⟩ := h
  unfold eCallR
  simp only [h1, h2, h3, if_true]
  cases r with
  | s i => exact absurd rfl (h4 i)
  | r t => exact ⟨_, _, rfl, q⟩
  | b z => exact ⟨_, _, rfl, q⟩
theorem w_call {n : Nat} {m : FSem} {ma : SemA} {Q : Od → En → Prop} {e : En} (h : W (ma e) (KCall n m Q)) : W (eCall n m ma e) Q :=
  w_bind (w_imp h fun rs e1 ⟨h1, ss, h2, h3, h4⟩ => by rw [if_pos h1]; exact callR_w h2 h3 h4)
/-- what comes back of a call -/
def KBack (rs : List Od) (e1 : En) (Q : Od → En → Prop) : Od → En → Prop := fun r ss' => (∀ i, r ≠ .s i) ∧ Q r (wb rs ss' e1)
theorem kcall {n : Nat} {m : FSem} {Q : Od → En → Prop} {rs : List Od} {e1 : En} {ss : List Sl} (h1 : rs.length = n) (h2 : toSls e1 rs = some ss) (h3 : (sIdx rs).Nodup) (h : W (m ss) (KBack rs e1 Q)) : KCall n m Q rs e1 := ⟨h1, ss, h2, h3, h⟩
def KCallK (n : Nat) (perm : List Nat) (m : FSem) (Q : Od → En → Prop) : List Od → En → Prop := fun rs e1 => ((pick perm rs).length = n ∧ rs.length = n ∧ perm.Nodup) ∧ ∃ ss, toSls e1 (pick perm rs) = some ss ∧ (sIdx (pick perm rs)).Nodup ∧ W (m ss) (KBack (pick perm rs) e1 Q)
theorem w_callk {n : Nat} {perm : List Nat} {m : FSem} {ma : SemA} {Q : Od → En → Prop} {e : En} (h : W (ma e) (KCallK n perm m Q)) : W (eCallK n perm m ma e) Q :=
  w_bind (w_imp h fun rs e1 ⟨h1, ss, h2, h3, h4⟩ => by rw [if_pos h1]; exact callR_w h2 h3 h4)
theorem kcallk {n : Nat} {perm : List Nat} {m : FSem} {Q : Od → En → Prop} {rs : List Od} {e1 : En} {ss : List Sl} (h0 : perm.Nodup) (h1 : (pick perm rs).length = n ∧ rs.length = n) (h2 : toSls e1 (pick perm rs) = some ss) (h3 : (sIdx (pick perm rs)).Nodup) (h : W (m ss) (KBack (pick perm rs) e1 Q)) : KCallK n perm m Q rs e1 := ⟨⟨h1.1, h1.2, h0⟩, ss, h2, h3, h⟩
def KMut2 (i : Nat) (g : List T → List T → Option (List T × T)) (Q : Od → En → Prop) : List Od → En → Prop := fun rs e1 => ∃ us e2 l ts ts' w, escs rs e1 = some (us, e2) ∧ e2[i]? = some (.ow l (.l ts)) ∧ g ts us = some (ts', w) ∧ Q (.r w) (e2.set i (.ow l (.l ts')))
theorem w_mut {i : Nat} {g : List T → List T → Option (List T × T)} {ma : SemA} {Q : Od → En → Prop} {e : En} {l : Bool} {ts : List T} (hi : e[i]? = some (.ow l (.l ts))) (h : W (ma e) (KMut2 i g Q)) : W (eMut i g ma e) Q := by
  unfold eMut
  simp only [hi]
  exact w_bind (w_imp h fun rs e1 ⟨us, e2, l, ts, ts', w, h1, h2, h3, q⟩ => ⟨_, _, by simp only [h1, h2, h3], q⟩)
theorem kmut2 {i : Nat} {g : List T → List T → Option (List T × T)} {Q : Od → En → Prop} {rs : List Od} {e1 e2 : En} {us ts ts' : List T} {w : T} {l : Bool} (h1 : escs rs e1 = some (us, e2)) (h2 : e2[i]? = some (.ow l (.l ts))) (h3 : g ts us = some (ts', w)) (q : Q (.r w) (e2.set i (.ow l (.l ts')))) : KMut2 i g Q rs e1 := ⟨us, e2, l, ts, ts', w, h1, h2, h3, q⟩
theorem gAppend_ok {ts : List T} {u : T} (h : ts.length < sizeLine) : gAppend ts [u] = some (ts ++ [u], .none) := by unfold gAppend; simp only [h, if_true]
def KAndE (mb : SemE) (Q : Od → En → Prop) : Bool → En → Prop := fun k e => (k = true → W (mb e) Q) ∧ (k = false → Q (.r (.bool false)) e)
theorem w_eand {ma mb : SemE} {Q : Od → En → Prop} {e : En} (h : W (tb ma e) (KAndE mb Q)) : W (eAnd ma mb e) Q := w_bind (w_imp h fun k e1 q => by
  cases k with
  | true => exact q.1 rfl
  | false => exact ⟨_, _, rfl, q.2 rfl⟩)
theorem kande_t {mb : SemE} {Q : Od → En → Prop} {k : Bool} {e : En} (hk : k = true) (h : W (mb e) Q) : KAndE mb Q k e := ⟨fun _ => h, fun z => (by rw [hk] at z; cases z)⟩
theorem kande_f {mb : SemE} {Q : Od → En → Prop} {k : Bool} {e : En} (hk : k = false) (h : Q (.r (.bool false)) e) : KAndE mb Q k e := ⟨fun z => (by rw [hk] at z; cases z), fun _ => h⟩
def KOrE (mb : SemE) (Q : Od → En → Prop) : Bool → En → Prop := fun k e => (k = true → Q (.r (.bool true)) e) ∧ (k = false → W (mb e) Q)
theorem w_eor {ma mb : SemE} {Q : Od → En → Prop} {e : En} (h : W (tb ma e) (KOrE mb Q)) : W (eOr ma mb e) Q := w_bind (w_imp h fun k e1 q => by
  cases k with
  | true => exact ⟨_, _, rfl, q.1 rfl⟩
  | false => exact q.2 rfl)
theorem kore_t {mb : SemE} {Q : Od → En → Prop} {k : Bool} {e : En} (hk : k = true) (h : Q (.r (.bool true)) e) : KOrE mb Q k e := ⟨fun _ => h, fun z => (by rw [hk] at z; cases z)⟩
theorem kore_f {mb : SemE} {Q : Od → En → Prop} {k : Bool} {e : En} (hk : k = false) (h : W (mb e) Q) : KOrE mb Q k e := ⟨fun z => (by rw [hk] at z; cases z), fun _ => h⟩
theorem w_enot {ma : SemE} {Q : Od → En → Prop} {e : En} (h : W (tb ma e) fun k e1 => Q (.r (.bool !k)) e1) : W (eNot ma e) Q := w_bind (w_imp h fun k e1 q => ⟨_, _, rfl, q⟩)
def KIfE (ma mb : SemE) (Q : Od → En → Prop) : Bool → En → Prop := fun k e => (k = true → W (ma e) Q) ∧ (k = false → W (mb e) Q)
theorem w_eif {t : SemT} {ma mb : SemE} {Q : Od → En → Prop} {e : En} (h : W (t e) (KIfE ma mb Q)) : W (eIf t ma mb e) Q := w_bind (w_imp h fun k e1 q => by
  cases k with
  | true => exact q.1 rfl
  | false => exact q.2 rfl)
theorem kife_t {ma mb : SemE} {Q : Od → En → Prop} {k : Bool} {e : En} (hk : k = true) (h : W (ma e) Q) : KIfE ma mb Q k e := ⟨fun _ => h, fun z => (by rw [hk] at z; cases z)⟩
theorem kife_f {ma mb : SemE} {Q : Od → En → Prop} {k : Bool} {e : En} (hk : k = false) (h : W (mb e) Q) : KIfE ma mb Q k e := ⟨fun z => (by rw [hk] at z; cases z), fun _ => h⟩
theorem kife_d {ma mb : SemE} {Q : Od → En → Prop} {p : Prop} [Decidable p] {e : En} (h1 : p → W (ma e) Q) (h2 : ¬ p → W (mb e) Q) : KIfE ma mb Q (decide p) e := ⟨fun h => h1 (of_decide_eq_true h), fun h => h2 (of_decide_eq_false h)⟩
def KNeg (Q : Od → En → Prop) : Od → En → Prop := fun r e => ∃ i, r.val e = some (.int i) ∧ Q (.r (.int (-i))) e
theorem w_neg {m : SemE} {Q : Od → En → Prop} {e : En} (h : W (m e) (KNeg Q)) : W (eNeg m e) Q := w_bind (w_imp h fun r e1 ⟨i, h1, q⟩ => ⟨_, _, by simp only [h1], q⟩)
theorem kneg {Q : Od → En → Prop} {r : Od} {e : En} {i : Int} (h : r.val e = some (.int i)) (q : Q (.r (.int (-i))) e) : KNeg Q r e := ⟨i, h, q⟩
def KIsi (f : T → Bool) (Q : Od → En → Prop) : Od → En → Prop := fun r e => ∃ t, r.val e = some t ∧ Q (.r (.bool (f t))) e
theorem w_isi {f : T → Bool} {m : SemE} {Q : Od → En → Prop} {e : En} (h : W (m e) (KIsi f Q)) : W (eIsi f m e) Q := w_bind (w_imp h fun r e1 ⟨t, h1, q⟩ => ⟨_, _, by simp only [h1], q⟩)
theorem kisi {f : T → Bool} {Q : Od → En → Prop} {r : Od} {e : En} {t : T} (h : r.val e = some t) (q : Q (.r (.bool (f t))) e) : KIsi f Q r e := ⟨t, h, q⟩
/-- slices -/
def KSl (lo hi : SemP) (Q : Od → En → Prop) : Od → En → Prop := fun r e1 => W (lo e1) fun l e2 => W (hi e2) fun h e3 => (∃ ts, r.val e3 = some (.list ts) ∧ Q (.b (.l (cutT ts l h))) e3) ∨ (∃ ts, r.val e3 = some (.tuple ts) ∧ Q (.r (.tuple (cutT ts l h))) e3)
theorem w_sl {m : SemE} {lo hi : SemP} {Q : Od → En → Prop} {e : En} (h : W (m e) (KSl lo hi Q)) : W (eSl m lo hi e) Q :=
  w_bind (w_imp h fun r e1 h1 => w_bind (w_imp h1 fun l e2 h2 => w_bind (w_imp h2 fun x e3 h3 => by
    rcases h3 with ⟨ts, h4, q⟩ | ⟨ts, h4, q⟩
    · exact ⟨_, _, by simp only [h4], q⟩
    · exact ⟨_, _, by simp only [h4], q⟩)))
theorem w_pno {Q : Option Int → En → Prop} {e : En} (q : Q none e) : W (pNo e) Q := ⟨_, _, rfl, q⟩
def KPso (Q : Option Int → En → Prop) : Od → En → Prop := fun r e => ∃ i, r.val e = some (.int i) ∧ Q (some i) e
theorem w_pso {m : SemE} {Q : Option Int → En → Prop} {e : En} (h : W (m e) (KPso Q)) : W (pSo m e) Q := w_bind (w_imp h fun r e1 ⟨i, h1, q⟩ => ⟨_, _, by simp only [h1], q⟩)
theorem kpso {Q : Option Int → En → Prop} {r : Od} {e : En} {i : Int} (h : r.val e = some (.int i)) (q : Q (some i) e) : KPso Q r e := ⟨i, h, q⟩
def KRev (Q : Od → En → Prop) : Od → En → Prop := fun r e3 => (∃ ts, r.val e3 = some (.list ts) ∧ Q (.b (.l ts.reverse)) e3) ∨ (∃ ts, r.val e3 = some (.tuple ts) ∧ Q (.r (.tuple ts.reverse)) e3)
theorem w_rev {m : SemE} {Q : Od → En → Prop} {e : En} (h : W (m e) (KRev Q)) : W (eRev m e) Q :=
  w_bind (w_imp h fun r e1 h1 => by
    rcases h1 with ⟨ts, h4, q⟩ | ⟨ts, h4, q⟩
    · exact ⟨_, _, by simp only [h4], q⟩
    · exact ⟨_, _, by simp only [h4], q⟩)
theorem krev_l {Q : Od → En → Prop} {r : Od} {e : En} {ts : List T} (h : r.val e = some (.list ts)) (q : Q (.b (.l ts.reverse)) e) : KRev Q r e := .inl ⟨ts, h, q⟩
theorem krev_t {Q : Od → En → Prop} {r : Od} {e : En} {ts : List T} (h : r.val e = some (.tuple ts)) (q : Q (.r (.tuple ts.reverse)) e) : KRev Q r e := .inr ⟨ts, h, q⟩
def KIndex1 (ma : SemA) (Q : Od → En → Prop) : Od → En → Prop := fun r e1 => ∃ ts0, r.val e1 = some (.list ts0) ∧ W (ma e1) fun rs e2 => ∃ ts u j, r.val e2 = some (.list ts) ∧ vals e2 rs = some [u] ∧ SeqAt.shaped (.list ts) = true ∧ SeqAt.shaped u = true ∧ findT ts u = some j ∧ Q (.r (.int (j : Nat))) e2
theorem w_index {mo : SemE} {ma : SemA} {Q : Od → En → Prop} {e : En} (h : W (mo e) (KIndex1 ma Q)) : W (eIndex mo ma e) Q :=
  w_bind (w_imp h fun r e1 ⟨ts0, h1, h2⟩ => by
    simp only [h1]
    exact w_bind (w_imp h2 fun rs e2 ⟨ts, u, j, q1, q2, q3, q4, q5, q⟩ => ⟨_, _, by simp only [q1, q2, q3, q4, q5, Bool.and_self, if_true], q⟩))
/-! ### functions -/
def KFun (ss : List Sl) (Q : Od → En → Prop) : Fl → En → Prop := fun fl e' => match fl with
  | .nx => Q (.r .none) (finE ss e')
  | .rt r => Q r (finE ss e')
  | _ => False
theorem w_fun {n : Nat} {b : SemS} {ss : List Sl} {e0 : En} {Q : Od → En → Prop} (h0 : ss.all okArg = true) (he : e0 = ss ++ List.replicate (n - ss.length) .un) (h : W (b e0) (KFun ss Q)) : W (runFn n b ss) Q := by
  obtain ⟨fl, e', h1, q⟩ := h
  unfold runFn
  rw [if_pos h0, ← he, h1]
  cases fl with
  | nx => exact ⟨_, _, rfl, q⟩
  | rt r => exact ⟨_, _, rfl, q⟩
  | bk => exact q.elim
  | ct => exact q.elim
theorem kfun_rt {ss : List Sl} {Q : Od → En → Prop} {r : Od} {e' : En} (q : Q r (finE ss e')) : KFun ss Q (.rt r) e' := q
theorem kfun_nx {ss : List Sl} {Q : Od → En → Prop} {e' : En} (q : Q (.r .none) (finE ss e')) : KFun ss Q .nx e' := q
/-! ### loops -/
def KFor (g : SemG) (b : SemS) (Q : Fl → En → Prop) : List T → En → Prop := fun ts e => W (forS g b ts e) Q
theorem w_for {mi : SemI} {g : SemG} {b : SemS} {Q : Fl → En → Prop} {e : En} (h : W (mi e) (KFor g b Q)) : W (sFor mi g b e) Q := w_bind h
def KOf (Q : List T → En → Prop) : Od → En → Prop := fun r e => ∃ ts e2, (esc r e = some (.list ts, e2) ∨ esc r e = some (.tuple ts, e2)) ∧ Q ts e2
theorem w_iof {m : SemE} {Q : List T → En → Prop} {e : En} (h : W (m e) (KOf Q)) : W (iOf m e) Q := w_bind (w_imp h fun r e1 ⟨ts, e2, h1, q⟩ => by
  rcases h1 with h1 | h1 <;> exact ⟨_, _, by simp only [h1], q⟩)
theorem kof_l {Q : List T → En → Prop} {r : Od} {e e2 : En} {ts : List T} (h : esc r e = some (.list ts, e2)) (q : Q ts e2) : KOf Q r e := ⟨ts, e2, .inl h, q⟩
theorem kof_t {Q : List T → En → Prop} {r : Od} {e e2 : En} {ts : List T} (h : esc r e = some (.tuple ts, e2)) (q : Q ts e2) : KOf Q r e := ⟨ts, e2, .inr h, q⟩
/-- the numbers below n -/
def below (n : Nat) : List T := (List.range n).map fun (k : Nat) => PyData.int (k : Int)
theorem below_is (n : Nat) : intsT 0 n = below n := by
  unfold intsT below
  exact List.map_congr_left fun k _ => by rw [Int.zero_add]
def KR1 (Q : List T → En → Prop) : List Od → En → Prop := fun rs e => ∃ n : Nat, vals e rs = some [.int (n : Int)] ∧ n < 16777216 ∧ Q (below n) e
theorem w_r1 {m : SemA} {Q : List T → En → Prop} {e : En} (h : W (m e) (KR1 Q)) : W (iR1 m e) Q := w_bind (w_imp h fun rs e1 ⟨n, h1, h2, q⟩ => by
  simp only [h1]
  rw [if_pos ⟨by omega, by omega⟩]
  refine ⟨_, _, rfl, ?_⟩
  rw [Int.toNat_natCast, below_is]
  exact q)
theorem kr1 {Q : List T → En → Prop} {rs : List Od} {e : En} {n : Nat} (h1 : vals e rs = some [.int (n : Int)]) (h2 : n < 16777216) (q : Q (below n) e) : KR1 Q rs e := ⟨n, h1, h2, q⟩
theorem kr1_eq {Q : List T → En → Prop} {rs : List Od} {e : En} {j : Int} (n : Nat) (h1 : vals e rs = some [.int j]) (hj : j = (n : Int)) (h2 : n < 16777216) (q : Q (below n) e) : KR1 Q rs e := ⟨n, by rw [h1, hj], h2, q⟩
/-- the numbers from lo on -/
def above (lo : Int) (n : Nat) : List T := (List.range n).map fun (k : Nat) => PyData.int (lo + (k : Int))
def KR2 (Q : List T → En → Prop) : List Od → En → Prop := fun rs e => ∃ i j : Int, vals e rs = some [.int i, .int j] ∧ (-(2 ^ 62) ≤ i ∧ i < 2 ^ 62 ∧ -(2 ^ 62) ≤ j ∧ j < 2 ^ 62) ∧ Q (above i (j - i).toNat) e
theorem w_r2 {m : SemA} {Q : List T → En → Prop} {e : En} (h : W (m e) (KR2 Q)) : W (iR2 m e) Q := w_bind (w_imp h fun rs e1 ⟨i, j, h1, h2, q⟩ => by
  simp only [h1]
  rw [if_pos h2]
  exact ⟨_, _, rfl, q⟩)
def KZip (Q : List T → En → Prop) : List Od → En → Prop := fun rs e => ∃ ts us e2, escs rs e = some ([.list ts, .list us], e2) ∧ Q (pairs ts us) e2
theorem w_izip {m : SemA} {Q : List T → En → Prop} {e : En} (h : W (m e) (KZip Q)) : W (iZip m e) Q := w_bind (w_imp h fun rs e1 ⟨ts, us, e2, h1, q⟩ => ⟨_, _, by simp only [h1], q⟩)
def KEnu (Q : List T → En → Prop) : List Od → En → Prop := fun rs e => ∃ ts e2, escs rs e = some ([.list ts], e2) ∧ Q (enumT ts) e2
theorem w_ienu {m : SemA} {Q : List T → En → Prop} {e : En} (h : W (m e) (KEnu Q)) : W (iEnu m e) Q := w_bind (w_imp h fun rs e1 ⟨ts, e2, h1, q⟩ => ⟨_, _, by simp only [h1], q⟩)
/-- what a turn of a loop leaves -/
def KTurn (I : En → Prop) (R : Od → En → Prop) (X : En → Prop) : Fl → En → Prop := fun fl e => match fl with
  | .nx => I e
  | .ct => I e
  | .rt r => R r e
  | .bk => X e
theorem kturn_nx {I : En → Prop} {R : Od → En → Prop} {X : En → Prop} {e : En} (h : I e) : KTurn I R X .nx e := h
theorem kturn_ct {I : En → Prop} {R : Od → En → Prop} {X : En → Prop} {e : En} (h : I e) : KTurn I R X .ct e := h
theorem kturn_rt {I : En → Prop} {R : Od → En → Prop} {X : En → Prop} {r : Od} {e : En} (h : R r e) : KTurn I R X (.rt r) e := h
theorem kturn_bk {I : En → Prop} {R : Od → En → Prop} {X : En → Prop} {e : En} (h : X e) : KTurn I R X .bk e := h
/-- a loop by what is done -/
theorem for_w {α : Type} (inn : α → T) (I : List α → En → Prop) {g : SemG} {b : SemS} {Q : Fl → En → Prop} : ∀ (xs don : List α) (e : En), I don e →
    (∀ (d2 : List α) (x : α) (rest : List α), xs = d2 ++ x :: rest → ∀ e, I (don ++ d2) e → ∃ e1, g (inn x) e = some e1 ∧ W (b e1) (KTurn (I (don ++ d2 ++ [x])) (fun r e => Q (.rt r) e) (fun e => Q .nx e))) →
    (∀ e, I (don ++ xs) e → Q .nx e) → W (forS g b (xs.map inn) e) Q
  | [], don, e, h, _, q => ⟨_, _, rfl, q e (by rw [List.append_nil]; exact h)⟩
  | x :: xs, don, e, h, s, q => by
    obtain ⟨e1, h1, fl, e2, h2, h3⟩ := s [] x xs rfl e (by rw [List.append_nil]; exact h)
    rw [List.append_nil] at h3
    rw [List.map_cons, forS, h1]
    simp only [h2]
    have go : I (don ++ [x]) e2 → W (forS g b (xs.map inn) e2) Q := fun h3 =>
      for_w inn I xs (don ++ [x]) e2 h3 (fun d2 y rest hx e hi => by
        have := s (x :: d2) y rest (by rw [hx]; rfl) e (by rw [List.append_assoc] at hi; exact hi)
        rw [show don ++ x :: d2 = don ++ [x] ++ d2 by rw [List.append_assoc]; rfl] at this
        exact this) fun e hi => q e (by rw [List.append_assoc] at hi; exact hi)
    cases fl with
    | nx => exact go h3
    | ct => exact go h3
    | rt r => exact ⟨_, _, rfl, h3⟩
    | bk => exact ⟨_, _, rfl, h3⟩
theorem for_on_w {α : Type} (inn : α → T) (xs : List α) (I : List α → En → Prop) {g : SemG} {b : SemS} {Q : Fl → En → Prop} {e : En} (h0 : I [] e)
    (hs : ∀ (don : List α) (x : α) (rest : List α), xs = don ++ x :: rest → ∀ e, I don e → ∃ e1, g (inn x) e = some e1 ∧ W (b e1) (KTurn (I (don ++ [x])) (fun r e => Q (.rt r) e) (fun e => Q .nx e)))
    (hq : ∀ e, I xs e → Q .nx e) : W (forS g b (xs.map inn) e) Q :=
  for_w inn I xs [] e h0 (fun d2 x rest hx e hi => by rw [List.nil_append] at hi ⊢; exact hs d2 x rest hx e hi) hq
theorem range_cut {n : Nat} {don rest : List Nat} {k : Nat} (h : List.range n = don ++ k :: rest) : don = List.range k ∧ k < n := by
  have hk : don.length < n := by
    have := congrArg List.length h
    rw [List.length_range, List.length_append, List.length_cons] at this
    omega
  have e : (List.range n)[don.length]? = some k := by rw [h]; simp
  rw [List.getElem?_range hk] at e
  have e : don.length = k := by simpa using e
  subst e
  refine ⟨?_, hk⟩
  have := congrArg (List.take don.length) h
  rw [List.take_range, List.take_left, Nat.min_eq_left (Nat.le_of_lt hk)] at this
  exact this.symm
/-- a loop over the numbers below n -/
theorem for_below {n : Nat} (I : Nat → En → Prop) {g : SemG} {b : SemS} {Q : Fl → En → Prop} {e : En} (h0 : I 0 e)
    (hs : ∀ k, k < n → ∀ e, I k e → ∃ e1, g (.int (k : Int)) e = some e1 ∧ W (b e1) (KTurn (I (k + 1)) (fun r e => Q (.rt r) e) (fun e => Q .nx e)))
    (hq : ∀ e, I n e → Q .nx e) : W (forS g b (below n) e) Q :=
  for_on_w (fun (k : Nat) => PyData.int (k : Int)) (List.range n) (fun don e => I don.length e) h0 (fun don k rest hx e hi => by
    obtain ⟨h1, h2⟩ := range_cut hx
    have hl : don.length = k := by rw [h1, List.length_range]
    rw [hl] at hi
    obtain ⟨e1, q1, q2⟩ := hs k h2 e hi
    exact ⟨e1, q1, by rw [List.length_append, hl]; exact q2⟩) fun e hi => hq e (by rw [List.length_range] at hi; exact hi)
/-- a comprehension by what is done: each one wanted, some left out -/
theorem comp_w {α : Type} (inn : α → T) (I : List α → List T → En → Prop) {g : SemG} {c : SemT} {m : SemE} {vs : List Nat} {Q : Od → En → Prop} : ∀ (xs don : List α) (acc : List T) (e : En), I don acc e → acc.length + xs.length ≤ sizeLine →
    (∀ (d2 : List α) (x : α) (rest : List α), xs = d2 ++ x :: rest → ∀ acc e, I (don ++ d2) acc e → ∃ e1, g (inn x) (wipeE e vs) = some e1 ∧ W (c e1) fun k e2 => if k then W (m e2) fun r e3 => ∃ u e4, esc r e3 = some (u, e4) ∧ I (don ++ d2 ++ [x]) (acc ++ [u]) (restE e e4 vs) else I (don ++ d2 ++ [x]) acc (restE e e2 vs)) →
    (∀ acc e, I (don ++ xs) acc e → Q (.b (.l acc)) e) → W (compS g c m vs (xs.map inn) acc e) Q
  | [], don, acc, e, h, _, _, q => ⟨_, _, rfl, q acc e (by rw [List.append_nil]; exact h)⟩
  | x :: xs, don, acc, e, h, hl, s, q => by
    obtain ⟨e1, h1, k, e2, h2, h3⟩ := s [] x xs rfl acc e (by rw [List.append_nil]; exact h)
    rw [List.append_nil] at h3
    rw [List.length_cons] at hl
    have go : ∀ acc' e', acc'.length + xs.length ≤ sizeLine → I (don ++ [x]) acc' e' → W (compS g c m vs (xs.map inn) acc' e') Q := fun acc' e' hl' h3 =>
      comp_w inn I xs (don ++ [x]) acc' e' h3 hl' (fun d2 y rest hx acc e hi => by
        have := s (x :: d2) y rest (by rw [hx]; rfl) acc e (by rw [List.append_assoc] at hi; exact hi)
        rw [show don ++ x :: d2 = don ++ [x] ++ d2 by rw [List.append_assoc]; rfl] at this
        exact this) fun acc e hi => q acc e (by rw [List.append_assoc] at hi; exact hi)
    rw [List.map_cons, compS, h1]
    simp only [h2, Out.nx, Out.bind]
    cases k with
    | true =>
      rw [if_pos rfl] at h3
      obtain ⟨r, e3, q1, u, e4, q2, q3⟩ := h3
      simp only [q1, q2, if_true]
      rw [if_pos (show acc.length < sizeLine by omega)]
      exact go _ _ (by rw [List.length_append, List.length_singleton]; omega) q3
    | false =>
      rw [if_neg (by decide)] at h3 ⊢
      exact go _ _ (by omega) h3
def KComp (g : SemG) (c : SemT) (m : SemE) (vs : List Nat) (Q : Od → En → Prop) : List T → En → Prop := fun ts e => W (compS g c m vs ts [] e) Q
theorem w_comp {mi : SemI} {g : SemG} {c : SemT} {m : SemE} {vs : List Nat} {Q : Od → En → Prop} {e : En} (h : W (mi e) (KComp g c m vs Q)) : W (eComp mi g c m vs e) Q := w_bind h
/-- what an element of a comprehension leaves -/
def KElt (I : T → En → Prop) : Od → En → Prop := fun r e3 => ∃ u e4, esc r e3 = some (u, e4) ∧ I u e4
theorem kelt {I : T → En → Prop} {r : Od} {e3 e4 : En} {u : T} (h : esc r e3 = some (u, e4)) (q : I u e4) : KElt I r e3 := ⟨u, e4, h, q⟩
/-- all elements, each by a relation, with a state -/
theorem comp_all {α : Type} (inn : α → T) (xs : List α) (I : List α → List T → En → Prop) {g : SemG} {m : SemE} {vs : List Nat} {Q : Od → En → Prop} {e : En} (h0 : I [] [] e) (hl : xs.length ≤ sizeLine)
    (hs : ∀ (don : List α) (x : α) (rest : List α), xs = don ++ x :: rest → ∀ acc e, I don acc e → ∃ e1, g (inn x) (wipeE e vs) = some e1 ∧ W (m e1) (KElt fun u e4 => I (don ++ [x]) (acc ++ [u]) (restE e e4 vs)))
    (hq : ∀ acc e, I xs acc e → Q (.b (.l acc)) e) : KComp g tTrue m vs Q (xs.map inn) e :=
  comp_w inn I xs [] [] e h0 (by rw [List.length_nil]; omega) (fun d2 x rest hx acc e hi => by
    rw [List.nil_append] at hi ⊢
    obtain ⟨e1, h1, h2⟩ := hs d2 x rest hx acc e hi
    exact ⟨e1, h1, ⟨true, e1, rfl, h2⟩⟩) hq
/-- a comprehension of a function, the state stays -/
theorem comp_map_w {α : Type} (inn out : α → T) (xs : List α) {g : SemG} {m : SemE} {vs : List Nat} {Q : Od → En → Prop} {e : En} (hl : xs.length ≤ sizeLine)
    (hs : ∀ x ∈ xs, ∃ e1, g (inn x) (wipeE e vs) = some e1 ∧ W (m e1) (KElt fun u e4 => u = out x ∧ restE e e4 vs = e))
    (q : Q (.b (.l (xs.map out))) e) : KComp g tTrue m vs Q (xs.map inn) e :=
  comp_all inn xs (fun don acc e' => acc = don.map out ∧ e' = e) ⟨rfl, rfl⟩ hl (fun don x rest hx acc e' ⟨h1, h2⟩ => by
    subst h2
    obtain ⟨e1, q1, q2⟩ := hs x (by rw [hx]; simp)
    refine ⟨e1, q1, w_imp q2 fun r e3 ⟨u, e4, z1, z2, z3⟩ => ⟨u, e4, z1, ?_, z3⟩⟩
    rw [h1, z2, List.map_append]; rfl) fun acc e' ⟨h1, h2⟩ => by rw [h1, h2]; exact q
/-- a comprehension with an if, the state stays -/
theorem comp_filter_w {α : Type} (inn out : α → T) (p : α → Bool) (xs : List α) {g : SemG} {c : SemT} {m : SemE} {vs : List Nat} {Q : Od → En → Prop} {e : En} (hl : xs.length ≤ sizeLine)
    (hs : ∀ x ∈ xs, ∃ e1, g (inn x) (wipeE e vs) = some e1 ∧ W (c e1) fun k e2 => k = p x ∧ (p x = false → restE e e2 vs = e) ∧ (p x = true → W (m e2) (KElt fun u e4 => u = out x ∧ restE e e4 vs = e)))
    (q : Q (.b (.l ((xs.filter p).map out))) e) : KComp g c m vs Q (xs.map inn) e :=
  comp_w inn (fun don acc e' => acc = (don.filter p).map out ∧ e' = e) xs [] [] e ⟨rfl, rfl⟩ (by rw [List.length_nil]; omega) (fun d2 x rest hx acc e' ⟨h1, h2⟩ => by
    subst h2
    rw [List.nil_append] at h1 ⊢
    obtain ⟨e1, q1, k, e2, q2, rfl, q3, q4⟩ := hs x (by rw [hx]; simp)
    refine ⟨e1, q1, _, _, q2, ?_⟩
    cases hp : p x with
    | true =>
      rw [if_pos rfl]
      refine w_imp (q4 hp) fun r e3 ⟨u, e4, z1, z2, z3⟩ => ⟨u, e4, z1, ?_, z3⟩
      rw [h1, z2, List.filter_append, List.map_append, List.filter_cons_of_pos hp]; rfl
    | false =>
      rw [if_neg (by decide)]
      refine ⟨?_, q3 hp⟩
      rw [h1, List.filter_append, List.filter_cons_of_neg (by rw [hp]; decide), List.filter_nil, List.append_nil]) fun acc e' ⟨h1, h2⟩ => by rw [h1, h2]; exact q
/-! ### whiles -/
/-! ### operations -/
theorem gMul_ok {i j : Int} (h : mulOk i j = true) : gMul (.int i) (.int j) = some (.r (.int (i * j))) := by simp only [gMul, h, if_true]
theorem gMod_ok {i j : Int} (h : 0 < j) : gMod (.int i) (.int j) = some (.r (.int (i % j))) := by unfold gMod gII; simp only [h, decide_true, if_true]
theorem gDiv_ok {i j : Int} (h : 0 < j) (h2 : j.natAbs.log2 < 9000) : gDiv (.int i) (.int j) = some (.r (.int (i / j))) := by unfold gDiv gII; simp only [h, h2, and_self, decide_true, if_true]
theorem gIx_l {ts : List T} {k : Nat} {x : T} (h : ts[k]? = some x) : gIx (.list ts) (.int (k : Int)) = some (.r x) := by
  have := (List.getElem?_eq_some_iff.mp h)
  unfold gIx L2.atI
  simp [ixN_nat this.1, h]
theorem gIx_t {ts : List T} {k : Nat} {x : T} (h : ts[k]? = some x) : gIx (.tuple ts) (.int (k : Int)) = some (.r x) := by
  have := (List.getElem?_eq_some_iff.mp h)
  unfold gIx L2.atI
  simp [ixN_nat this.1, h]
theorem gAdd_tt {xs ys : List T} (h : xs.length + ys.length ≤ sizeLine) : gAdd (.tuple xs) (.tuple ys) = some (.r (.tuple (xs ++ ys))) := by simp only [gAdd, h, if_true]
theorem gAdd_ll {xs ys : List T} (h : xs.length + ys.length ≤ sizeLine) : gAdd (.list xs) (.list ys) = some (.b (.l (xs ++ ys))) := by simp only [gAdd, h, if_true]
theorem gEq_i (k : Bool → Bool) (i j : Int) : gEq k (.int i) (.int j) = some (.r (.bool (k (decide (i = j))))) := rfl
theorem gEq_n (i j : Int) : gEq not (.int i) (.int j) = some (.r (.bool (decide (i ≠ j)))) := by
  show some (Od.r (.bool (!decide (i = j)))) = _
  congr 3
  by_cases h : i = j <;> simp [h]
theorem gEq_e (i j : Int) : gEq id (.int i) (.int j) = some (.r (.bool (decide (i = j)))) := rfl
theorem gAll_b (bs : List Bool) : gAll [.list (bs.map .bool)] = some (.r (.bool (bs.all id))) := gAll_bools bs
/-! ### repeating, slices again -/
def KRep1 (mb : SemE) (Q : Od → En → Prop) : Od → En → Prop := fun ra e1 => W (mb e1) fun rb e2 => ∃ (us : List T) (n : Nat), ra = .b (.l us) ∧ rb.val e2 = some (.int (n : Int)) ∧ (n ≤ 65536 ∧ us.length ≤ 16) ∧ Q (.b (.l (List.replicate n us).flatten)) e2
def KRep2 (ra : Od) (Q : Od → En → Prop) : Od → En → Prop := fun rb e2 => ∃ (us : List T) (n : Nat), ra = .b (.l us) ∧ rb.val e2 = some (.int (n : Int)) ∧ (n ≤ 65536 ∧ us.length ≤ 16) ∧ Q (.b (.l (List.replicate n us).flatten)) e2
theorem w_rep {ma mb : SemE} {Q : Od → En → Prop} {e : En} (h : W (ma e) (KRep1 mb Q)) : W (eRep ma mb e) Q :=
  w_bind (w_imp h fun ra e1 h1 => w_bind (w_imp h1 fun rb e2 ⟨us, n, q1, q2, ⟨q3, q4⟩, q⟩ => by
    subst q1
    simp only [q2]
    rw [if_pos ⟨by omega, by omega, q4⟩, Int.toNat_natCast]
    exact ⟨_, _, rfl, q⟩))
theorem krep1 {mb : SemE} {Q : Od → En → Prop} {ra : Od} {e1 : En} (h : W (mb e1) (KRep2 ra Q)) : KRep1 mb Q ra e1 := h
def KSl2 (r : Od) (l : Option Int) (Q : Od → En → Prop) : Option Int → En → Prop := fun h e3 => (∃ ts, r.val e3 = some (.list ts) ∧ Q (.b (.l (cutT ts l h))) e3) ∨ (∃ ts, r.val e3 = some (.tuple ts) ∧ Q (.r (.tuple (cutT ts l h))) e3)
def KSl1 (hi : SemP) (r : Od) (Q : Od → En → Prop) : Option Int → En → Prop := fun l e2 => W (hi e2) (KSl2 r l Q)
theorem ksl_ {lo hi : SemP} {Q : Od → En → Prop} {r : Od} {e1 : En} (h : W (lo e1) (KSl1 hi r Q)) : KSl lo hi Q r e1 := h
theorem ksl1 {hi : SemP} {Q : Od → En → Prop} {r : Od} {l : Option Int} {e2 : En} (h : W (hi e2) (KSl2 r l Q)) : KSl1 hi r Q l e2 := h
theorem ksl2_l {Q : Od → En → Prop} {r : Od} {l h : Option Int} {e3 : En} {ts : List T} (h1 : r.val e3 = some (.list ts)) (q : Q (.b (.l (cutT ts l h))) e3) : KSl2 r l Q h e3 := .inl ⟨ts, h1, q⟩
theorem ksl2_t {Q : Od → En → Prop} {r : Od} {l h : Option Int} {e3 : En} {ts : List T} (h1 : r.val e3 = some (.tuple ts)) (q : Q (.r (.tuple (cutT ts l h))) e3) : KSl2 r l Q h e3 := .inr ⟨ts, h1, q⟩
/-! ### index -/
def KIndex2 (r : Od) (Q : Od → En → Prop) : List Od → En → Prop := fun rs e2 => ∃ ts u j, r.val e2 = some (.list ts) ∧ vals e2 rs = some [u] ∧ SeqAt.shaped (.list ts) = true ∧ SeqAt.shaped u = true ∧ findT ts u = some j ∧ Q (.r (.int (j : Nat))) e2
theorem kindex1_ {ma : SemA} {Q : Od → En → Prop} {r : Od} {e1 : En} {ts0 : List T} (h0 : r.val e1 = some (.list ts0)) (h : W (ma e1) (KIndex2 r Q)) : KIndex1 ma Q r e1 := ⟨ts0, h0, h⟩
/-! ### dicts whose keys are tuples -/
def KMGet (i : Nat) (Q : Od → En → Prop) : Od → En → Prop := fun r e1 => ∃ t l kvs kk u, r.val e1 = some t ∧ e1[i]? = some (.ow l (.m kvs)) ∧ keyM t = some kk ∧ mLook kvs t = some u ∧ Q (.r u) e1
theorem w_mget {i : Nat} {mk : SemE} {Q : Od → En → Prop} {e : En} {l : Bool} {kvs : List (T × T)} (hi : e[i]? = some (.ow l (.m kvs))) (h : W (mk e) (KMGet i Q)) : W (eMGet i mk e) Q := by
  unfold eMGet
  simp only [hi]
  exact w_bind (w_imp h fun r e1 ⟨t, l, kvs, kk, u, q1, q2, q3, q4, q⟩ => ⟨_, _, by simp only [q1, q2, q3, q4], q⟩)
theorem kmget {i : Nat} {Q : Od → En → Prop} {r : Od} {e1 : En} {t : T} {l : Bool} {kvs : List (T × T)} {kk : List L2.Key} {u : T} (q1 : r.val e1 = some t) (q2 : e1[i]? = some (.ow l (.m kvs))) (q3 : keyM t = some kk) (q4 : mLook kvs t = some u) (q : Q (.r u) e1) : KMGet i Q r e1 := ⟨t, l, kvs, kk, u, q1, q2, q3, q4, q⟩
def KMIn (neg : Bool) (i : Nat) (Q : Od → En → Prop) : Od → En → Prop := fun r e1 => ∃ t l kvs kk c, r.val e1 = some t ∧ e1[i]? = some (.ow l (.m kvs)) ∧ keyM t = some kk ∧ (mLook kvs t).isSome = c ∧ Q (.r (.bool (if neg then !c else c))) e1
theorem w_min {neg : Bool} {i : Nat} {mk : SemE} {Q : Od → En → Prop} {e : En} (h : W (mk e) (KMIn neg i Q)) : W (eMIn neg i mk e) Q :=
  w_bind (w_imp h fun r e1 ⟨t, l, kvs, kk, c, q1, q2, q3, q4, q⟩ => ⟨_, _, by simp only [q1, q2, q3, q4], q⟩)
theorem kmin {neg : Bool} {i : Nat} {Q : Od → En → Prop} {r : Od} {e1 : En} {t : T} {l : Bool} {kvs : List (T × T)} {kk : List L2.Key} {c : Bool} (q1 : r.val e1 = some t) (q2 : e1[i]? = some (.ow l (.m kvs))) (q3 : keyM t = some kk) (q4 : (mLook kvs t).isSome = c) (q : Q (.r (.bool (if neg then !c else c))) e1) : KMIn neg i Q r e1 := ⟨t, l, kvs, kk, c, q1, q2, q3, q4, q⟩
def KMPut2 (i : Nat) (r : Od) (Q : Fl → En → Prop) : Od → En → Prop := fun rk e2 => ∃ t u e3 l kvs kk, rk.val e2 = some t ∧ esc r e2 = some (u, e3) ∧ e3[i]? = some (.ow l (.m kvs)) ∧ keyM t = some kk ∧ kvs.length < sizeLine ∧ Q .nx (e3.set i (.ow l (.m (mPut kvs t u))))
def KMPut1 (i : Nat) (mk : SemE) (Q : Fl → En → Prop) : Od → En → Prop := fun r e1 => ∃ l kvs, e1[i]? = some (.ow l (.m kvs)) ∧ W (mk e1) (KMPut2 i r Q)
theorem w_mput {i : Nat} {mk mv : SemE} {Q : Fl → En → Prop} {e : En} (h : W (mv e) (KMPut1 i mk Q)) : W (sMPut i mk mv e) Q := by
  refine w_bind (w_imp h fun r e1 ⟨l, kvs, h1, h2⟩ => ?_)
  simp only [h1]
  exact w_bind (w_imp h2 fun rk e2 ⟨t, u, e3, l, kvs, kk, q1, q2, q3, q4, q5, q⟩ => ⟨_, _, by simp only [q1, q2, q3, q4]; rw [if_pos q5], q⟩)
theorem kmput1 {i : Nat} {mk : SemE} {Q : Fl → En → Prop} {r : Od} {e1 : En} {l : Bool} {kvs : List (T × T)} (h1 : e1[i]? = some (.ow l (.m kvs))) (h : W (mk e1) (KMPut2 i r Q)) : KMPut1 i mk Q r e1 := ⟨l, kvs, h1, h⟩
theorem kmput2 {i : Nat} {r : Od} {Q : Fl → En → Prop} {rk : Od} {e2 e3 : En} {t u : T} {l : Bool} {kvs : List (T × T)} {kk : List L2.Key} (q1 : rk.val e2 = some t) (q2 : esc r e2 = some (u, e3)) (q3 : e3[i]? = some (.ow l (.m kvs))) (q4 : keyM t = some kk) (q5 : kvs.length < sizeLine) (q : Q .nx (e3.set i (.ow l (.m (mPut kvs t u))))) : KMPut2 i r Q rk e2 := ⟨t, u, e3, l, kvs, kk, q1, q2, q3, q4, q5, q⟩
theorem w_mnew {Q : Od → En → Prop} {e : En} (q : Q (.b (.m [])) e) : W (eMNew e) Q := ⟨_, _, rfl, q⟩
def KMD2 (rk : Od) (Q : Od → En → Prop) : Od → En → Prop := fun rv e2 => ∃ t u kk, rk.val e2 = some t ∧ rv = .r u ∧ keyM t = some kk ∧ Q (.b (.m [(t, u)])) e2
def KMD1 (mv : SemE) (Q : Od → En → Prop) : Od → En → Prop := fun rk e1 => W (mv e1) (KMD2 rk Q)
theorem w_mdict1 {mk mv : SemE} {Q : Od → En → Prop} {e : En} (h : W (mk e) (KMD1 mv Q)) : W (eMDict1 mk mv e) Q :=
  w_bind (w_imp h fun rk e1 h1 => w_bind (w_imp h1 fun rv e2 ⟨t, u, kk, q1, q2, q3, q⟩ => by subst q2; exact ⟨_, _, by simp only [q1, q3], q⟩))
theorem kmd1 {mv : SemE} {Q : Od → En → Prop} {rk : Od} {e1 : En} (h : W (mv e1) (KMD2 rk Q)) : KMD1 mv Q rk e1 := h
theorem kmd2 {rk : Od} {Q : Od → En → Prop} {u : T} {e2 : En} {t : T} {kk : List L2.Key} (q1 : rk.val e2 = some t) (q3 : keyM t = some kk) (q : Q (.b (.m [(t, u)])) e2) : KMD2 rk Q (.r u) e2 := ⟨t, u, kk, q1, rfl, q3, q⟩
/-! ### dicts whose keys are ints -/
def KDGet (i : Nat) (Q : Od → En → Prop) : Od → En → Prop := fun r e1 => ∃ t l kvs kk u, r.val e1 = some t ∧ e1[i]? = some (.ow l (.d kvs)) ∧ keyOf t = some kk ∧ dLook kvs t = some u ∧ Q (.r u) e1
theorem w_dget {i : Nat} {mk : SemE} {Q : Od → En → Prop} {e : En} {l : Bool} {kvs : List (T × T)} (hi : e[i]? = some (.ow l (.d kvs))) (h : W (mk e) (KDGet i Q)) : W (eDGet i mk e) Q := by
  unfold eDGet
  simp only [hi]
  exact w_bind (w_imp h fun r e1 ⟨t, l, kvs, kk, u, q1, q2, q3, q4, q⟩ => ⟨_, _, by simp only [q1, q2, q3, q4], q⟩)
theorem kdget {i : Nat} {Q : Od → En → Prop} {r : Od} {e1 : En} {t : T} {l : Bool} {kvs : List (T × T)} {kk : L2.Key} {u : T} (q1 : r.val e1 = some t) (q2 : e1[i]? = some (.ow l (.d kvs))) (q3 : keyOf t = some kk) (q4 : dLook kvs t = some u) (q : Q (.r u) e1) : KDGet i Q r e1 := ⟨t, l, kvs, kk, u, q1, q2, q3, q4, q⟩
def KDPut2 (i : Nat) (r : Od) (Q : Fl → En → Prop) : Od → En → Prop := fun rk e2 => ∃ t u e3 l kvs kk, rk.val e2 = some t ∧ esc r e2 = some (u, e3) ∧ e3[i]? = some (.ow l (.d kvs)) ∧ keyOf t = some kk ∧ kvs.length < sizeLine ∧ Q .nx (e3.set i (.ow l (.d (dPut kvs t u))))
def KDPut1 (i : Nat) (mk : SemE) (Q : Fl → En → Prop) : Od → En → Prop := fun r e1 => ∃ l kvs, e1[i]? = some (.ow l (.d kvs)) ∧ W (mk e1) (KDPut2 i r Q)
theorem w_dput {i : Nat} {mk mv : SemE} {Q : Fl → En → Prop} {e : En} (h : W (mv e) (KDPut1 i mk Q)) : W (sDPutV i mk mv e) Q := by
  refine w_bind (w_imp h fun r e1 ⟨l, kvs, h1, h2⟩ => ?_)
  simp only [h1]
  exact w_bind (w_imp h2 fun rk e2 ⟨t, u, e3, l, kvs, kk, q1, q2, q3, q4, q5, q⟩ => ⟨_, _, by simp only [q1, q2, q3, q4]; rw [if_pos q5], q⟩)
theorem kdput1 {i : Nat} {mk : SemE} {Q : Fl → En → Prop} {r : Od} {e1 : En} {l : Bool} {kvs : List (T × T)} (h1 : e1[i]? = some (.ow l (.d kvs))) (h : W (mk e1) (KDPut2 i r Q)) : KDPut1 i mk Q r e1 := ⟨l, kvs, h1, h⟩
theorem kdput2 {i : Nat} {r : Od} {Q : Fl → En → Prop} {rk : Od} {e2 e3 : En} {t u : T} {l : Bool} {kvs : List (T × T)} {kk : L2.Key} (q1 : rk.val e2 = some t) (q2 : esc r e2 = some (u, e3)) (q3 : e3[i]? = some (.ow l (.d kvs))) (q4 : keyOf t = some kk) (q5 : kvs.length < sizeLine) (q : Q .nx (e3.set i (.ow l (.d (dPut kvs t u))))) : KDPut2 i r Q rk e2 := ⟨t, u, e3, l, kvs, kk, q1, q2, q3, q4, q5, q⟩
theorem w_eq {α : Type} {o : Out α} {a : α} {b : En} (h : W o fun r e => r = a ∧ e = b) : o = .ok a b := by
  obtain ⟨r, e, h, rfl, rfl⟩ := h
  exact h
/-! ### dict(xs), xs[i], xs[j] = v, w -/
def KDictP (Q : Od → En → Prop) : List Od → En → Prop := fun rs e1 => ∃ ts e2 kvs, escs rs e1 = some ([.list ts], e2) ∧ pairsOf ts = some kvs ∧ Q (.b (.d (mergeT [] kvs))) e2
theorem w_dictp {m : SemA} {Q : Od → En → Prop} {e : En} (h : W (m e) (KDictP Q)) : W (eDictP m e) Q :=
  w_bind (w_imp h fun rs e1 ⟨ts, e2, kvs, h1, h2, q⟩ => ⟨_, _, by simp only [h1, h2], q⟩)
theorem kdictp {Q : Od → En → Prop} {rs : List Od} {e1 e2 : En} {ts : List T} {kvs : List (T × T)} (h1 : escs rs e1 = some ([.list ts], e2)) (h2 : pairsOf ts = some kvs) (q : Q (.b (.d (mergeT [] kvs))) e2) : KDictP Q rs e1 := ⟨ts, e2, kvs, h1, h2, q⟩
def KPutS (tgs : List (Nat × SemE)) (Q : Fl → En → Prop) : List Od → En → Prop := fun rs e1 => ∃ ts e2, escs rs e1 = some (ts, e2) ∧ (ts.length = tgs.length ∧ ts.length ≤ sizeLine) ∧ W (putS tgs ts e2) Q
theorem w_putS {tgs : List (Nat × SemE)} {m : SemA} {Q : Fl → En → Prop} {e : En} (h : W (m e) (KPutS tgs Q)) : W (sPutS tgs m e) Q :=
  w_bind (w_imp h fun rs e1 ⟨ts, e2, h1, h2, q⟩ => by simp only [h1]; rw [if_pos h2]; exact q)
theorem kputS {tgs : List (Nat × SemE)} {Q : Fl → En → Prop} {rs : List Od} {e1 e2 : En} {ts : List T} (h1 : escs rs e1 = some (ts, e2)) (h2 : ts.length = tgs.length) (h3 : Nat.ble ts.length 64 = true) (q : W (putS tgs ts e2) Q) : KPutS tgs Q rs e1 := ⟨ts, e2, h1, ⟨h2, Nat.le_trans (Nat.le_of_ble_eq_true h3) (by unfold sizeLine; omega)⟩, q⟩
theorem putS_nil {Q : Fl → En → Prop} {e : En} (q : Q .nx e) : W (putS [] [] e) Q := ⟨_, _, by unfold putS; rfl, q⟩
def KPutL (i : Nat) (t : T) (tgs : List (Nat × SemE)) (ts : List T) (Q : Fl → En → Prop) : Od → En → Prop := fun ri e2 => ∃ k l us j, ri.val e2 = some (.int k) ∧ e2[i]? = some (.ow l (.l us)) ∧ L2.ixN us.length k = some j ∧ W (putS tgs ts (e2.set i (.ow l (.l (us.set j t))))) Q
theorem putS_l {i : Nat} {mk : SemE} {tgs : List (Nat × SemE)} {t : T} {ts : List T} {Q : Fl → En → Prop} {e : En} {l : Bool} {us : List T} (hi : e[i]? = some (.ow l (.l us))) (h : W (mk e) (KPutL i t tgs ts Q)) : W (putS ((i, mk) :: tgs) (t :: ts) e) Q := by
  unfold putS
  simp only [hi]
  exact w_bind (w_imp h fun ri e2 ⟨k, l, us, j, q1, q2, q3, q⟩ => by simp only [q1, q2, q3]; exact q)
theorem kputL {i : Nat} {t : T} {tgs : List (Nat × SemE)} {ts : List T} {Q : Fl → En → Prop} {ri : Od} {e2 : En} {k : Int} {l : Bool} {us : List T} {j : Nat} (q1 : ri.val e2 = some (.int k)) (q2 : e2[i]? = some (.ow l (.l us))) (q3 : L2.ixN us.length k = some j) (q : W (putS tgs ts (e2.set i (.ow l (.l (us.set j t))))) Q) : KPutL i t tgs ts Q ri e2 := ⟨k, l, us, j, q1, q2, q3, q⟩
def KPutD (i : Nat) (t : T) (tgs : List (Nat × SemE)) (ts : List T) (Q : Fl → En → Prop) : Od → En → Prop := fun ri e2 => ∃ u l kvs kk, ri.val e2 = some u ∧ e2[i]? = some (.ow l (.d kvs)) ∧ keyOf u = some kk ∧ kvs.length < sizeLine ∧ W (putS tgs ts (e2.set i (.ow l (.d (dPut kvs u t))))) Q
theorem putS_d {i : Nat} {mk : SemE} {tgs : List (Nat × SemE)} {t : T} {ts : List T} {Q : Fl → En → Prop} {e : En} {l : Bool} {kvs : List (T × T)} (hi : e[i]? = some (.ow l (.d kvs))) (h : W (mk e) (KPutD i t tgs ts Q)) : W (putS ((i, mk) :: tgs) (t :: ts) e) Q := by
  unfold putS
  simp only [hi]
  exact w_bind (w_imp h fun ri e2 ⟨u, l, kvs, kk, q1, q2, q3, q4, q⟩ => by simp only [q1, q2, q3]; rw [if_pos q4]; exact q)
theorem kputD {i : Nat} {t : T} {tgs : List (Nat × SemE)} {ts : List T} {Q : Fl → En → Prop} {ri : Od} {e2 : En} {u : T} {l : Bool} {kvs : List (T × T)} {kk : L2.Key} (q1 : ri.val e2 = some u) (q2 : e2[i]? = some (.ow l (.d kvs))) (q3 : keyOf u = some kk) (q4 : kvs.length < sizeLine) (q : W (putS tgs ts (e2.set i (.ow l (.d (dPut kvs u t))))) Q) : KPutD i t tgs ts Q ri e2 := ⟨u, l, kvs, kk, q1, q2, q3, q4, q⟩
/-! ### range from, zip, enumerate, max -/
def KR2w (Q : List T → En → Prop) : List Od → En → Prop := fun rs e => ∃ i j : Int, vals e rs = some [.int i, .int j] ∧ Q (above i (j - i).toNat) e
theorem w_r2w {m : SemA} {Q : List T → En → Prop} {e : En} (h : W (m e) (KR2w Q)) : W (iR2w m e) Q := w_bind (w_imp h fun rs e1 ⟨i, j, h1, q⟩ => ⟨_, _, by simp only [h1]; rfl, q⟩)
theorem kr2w {Q : List T → En → Prop} {rs : List Od} {e : En} {i j : Int} (h1 : vals e rs = some [.int i, .int j]) (q : Q (above i (j - i).toNat) e) : KR2w Q rs e := ⟨i, j, h1, q⟩
theorem kzip {Q : List T → En → Prop} {rs : List Od} {e e2 : En} {ts us : List T} (h1 : escs rs e = some ([.list ts, .list us], e2)) (q : Q (pairs ts us) e2) : KZip Q rs e := ⟨ts, us, e2, h1, q⟩
theorem kenu {Q : List T → En → Prop} {rs : List Od} {e e2 : En} {ts : List T} (h1 : escs rs e = some ([.list ts], e2)) (q : Q (enumT ts) e2) : KEnu Q rs e := ⟨ts, e2, h1, q⟩
/-! ### the same, the state written out -/
theorem kseq_nx_n {b : SemS} {Q : Fl → En → Prop} {e e2 : En} (he : e2 = e) (h : W (b e2) Q) : KSeq b Q .nx e := by subst he; exact h
theorem kback_r_n {rs : List Od} {e1 e2 : En} {Q : Od → En → Prop} {t : T} {ss' : En} (he : e2 = wb rs ss' e1) (q : Q (.r t) e2) : KBack rs e1 Q (.r t) ss' := by subst he; exact ⟨fun _ z => (by cases z), q⟩
theorem kback_b_n {rs : List Od} {e1 e2 : En} {Q : Od → En → Prop} {z : Bx} {ss' : En} (he : e2 = wb rs ss' e1) (q : Q (.b z) e2) : KBack rs e1 Q (.b z) ss' := by subst he; exact ⟨fun _ z => (by cases z), q⟩
def KZip2 (Q : List T → En → Prop) : List Od → En → Prop := fun rs e => ∃ ts us e2, (escs rs e = some ([.list ts, .list us], e2) ∨ escs rs e = some ([.tuple ts, .tuple us], e2)) ∧ Q (pairs ts us) e2
theorem w_izip2 {m : SemA} {Q : List T → En → Prop} {e : En} (h : W (m e) (KZip2 Q)) : W (iZip2 m e) Q := w_bind (w_imp h fun rs e1 ⟨ts, us, e2, h1, q⟩ => by
  rcases h1 with h1 | h1 <;> exact ⟨_, _, by simp only [h1], q⟩)
theorem kzip2_l {Q : List T → En → Prop} {rs : List Od} {e e2 : En} {ts us : List T} (h1 : escs rs e = some ([.list ts, .list us], e2)) (q : Q (pairs ts us) e2) : KZip2 Q rs e := ⟨ts, us, e2, .inl h1, q⟩
theorem kzip2_t {Q : List T → En → Prop} {rs : List Od} {e e2 : En} {ts us : List T} (h1 : escs rs e = some ([.tuple ts, .tuple us], e2)) (q : Q (pairs ts us) e2) : KZip2 Q rs e := ⟨ts, us, e2, .inr h1, q⟩
/-! ### a walk over two names -/
def KCompG (g : SemG) (c : SemT) (m : SemE) (vs : List Nat) (Q : Od → En → Prop) : List T × (En → Prop) → En → Prop := fun p e => W (compSG p.2 g c m vs p.1 [] e) Q
theorem w_compG {mi : SemIG} {g : SemG} {c : SemT} {m : SemE} {vs : List Nat} {Q : Od → En → Prop} {e : En} (h : W (mi e) (KCompG g c m vs Q)) : W (eCompG mi g c m vs e) Q := w_bind h
theorem w_izipV_l {i j : Nat} {e : En} {Q : List T × (En → Prop) → En → Prop} {si sj : Sl} {ts us : List T} (h1 : e[i]? = some si) (h2 : e[j]? = some sj) (h3 : seqOf si = some (.inl ts)) (h4 : seqOf sj = some (.inl us)) (q : Q (pairs ts us, fun e' => e'[i]? = some si ∧ e'[j]? = some sj) e) : W (iZipV i j e) Q :=
  ⟨_, _, by unfold iZipV; simp only [h1, h2, h3, h4], q⟩
theorem w_izipV_r {i j : Nat} {e : En} {Q : List T × (En → Prop) → En → Prop} {si sj : Sl} {ts us : List T} (h1 : e[i]? = some si) (h2 : e[j]? = some sj) (h3 : seqOf si = some (.inr ts)) (h4 : seqOf sj = some (.inr us)) (q : Q (pairs ts us, fun e' => e'[i]? = some si ∧ e'[j]? = some sj) e) : W (iZipV i j e) Q :=
  ⟨_, _, by unfold iZipV; simp only [h1, h2, h3, h4], q⟩
/-! ### texts -/
theorem gStr_ok {i : Int} (h : i.natAbs.log2 < 1920) : gStr [.int i] = some (.r (.str (toString i))) := if_pos h
def KJoin1 (m : SemE) (Q : Od → En → Prop) : Od → En → Prop := fun ro e0 => ∃ sep, ro = .r (.str sep) ∧ W (m e0) fun r e1 => ∃ ts ys, (r.val e1 = some (.list ts) ∨ r.val e1 = some (.tuple ts)) ∧ strsOf ts = some ys ∧ (ys.map (·.length)).sum + ys.length * sep.length ≤ 16777216 ∧ Q (.r (.str (Txt.join sep ys))) e1
def KJoin2 (sep : Str) (Q : Od → En → Prop) : Od → En → Prop := fun r e1 => ∃ ts ys, (r.val e1 = some (.list ts) ∨ r.val e1 = some (.tuple ts)) ∧ strsOf ts = some ys ∧ (ys.map (·.length)).sum + ys.length * sep.length ≤ 16777216 ∧ Q (.r (.str (Txt.join sep ys))) e1
theorem w_join {mo m : SemE} {Q : Od → En → Prop} {e : En} (h : W (mo e) (KJoin1 m Q)) : W (eJoin mo m e) Q :=
  w_bind (w_imp h fun ro e0 ⟨sep, h0, h1⟩ => by
    subst h0
    exact w_bind (w_imp h1 fun r e1 ⟨ts, ys, q1, q2, q3, q⟩ => by
      rcases q1 with q1 | q1 <;> exact ⟨_, _, by simp only [q1, q2]; rw [if_pos q3], q⟩))
theorem kjoin1 {m : SemE} {Q : Od → En → Prop} {sep : Str} {e0 : En} (h : W (m e0) (KJoin2 sep Q)) : KJoin1 m Q (.r (.str sep)) e0 := ⟨sep, rfl, h⟩
theorem kjoin2 {sep : Str} {Q : Od → En → Prop} {r : Od} {e1 : En} {ts : List T} {ys : List Str} (q1 : r.val e1 = some (.list ts)) (q2 : strsOf ts = some ys) (q3 : (ys.map (·.length)).sum + ys.length * sep.length ≤ 16777216) (q : Q (.r (.str (Txt.join sep ys))) e1) : KJoin2 sep Q r e1 := ⟨ts, ys, .inl q1, q2, q3, q⟩
def KFmt (Q : Od → En → Prop) : Od → En → Prop := fun r e1 => (∃ y, r.val e1 = some (.str y) ∧ y.length ≤ sizeLine ∧ Q (.r (.str y)) e1) ∨ ∃ i, r.val e1 = some (.int i) ∧ i.natAbs.log2 < 1920 ∧ Q (.r (.str (toString i))) e1
theorem w_fmt {m : SemE} {Q : Od → En → Prop} {e : En} (h : W (m e) (KFmt Q)) : W (eFmt m e) Q :=
  w_bind (w_imp h fun r e1 h1 => by
    rcases h1 with ⟨y, q1, q2, q⟩ | ⟨i, q1, q2, q⟩
    · exact ⟨_, _, by simp only [q1]; rw [if_pos q2], q⟩
    · exact ⟨_, _, by simp only [q1]; rw [if_pos q2], q⟩)
theorem kfmt_s {Q : Od → En → Prop} {r : Od} {e1 : En} {y : Str} (q1 : r.val e1 = some (.str y)) (q2 : y.length ≤ sizeLine) (q : Q (.r (.str y)) e1) : KFmt Q r e1 := .inl ⟨y, q1, q2, q⟩
theorem kfmt_i {Q : Od → En → Prop} {r : Od} {e1 : En} {i : Int} (q1 : r.val e1 = some (.int i)) (q2 : i.natAbs.log2 < 1920) (q : Q (.r (.str (toString i))) e1) : KFmt Q r e1 := .inr ⟨i, q1, q2, q⟩
theorem w_js_nil {acc : Str} {Q : Od → En → Prop} {e : En} (q : Q (.r (.str acc)) e) : W (eJs [] acc e) Q := ⟨_, _, rfl, q⟩
def KJs (ms : List SemE) (acc : Str) (Q : Od → En → Prop) : Od → En → Prop := fun r e1 => ∃ y, r = .r (.str y) ∧ (acc ++ y).length ≤ sizeLine ∧ W (eJs ms (acc ++ y) e1) Q
theorem w_js {m : SemE} {ms : List SemE} {acc : Str} {Q : Od → En → Prop} {e : En} (h : W (m e) (KJs ms acc Q)) : W (eJs (m :: ms) acc e) Q :=
  w_bind (w_imp h fun r e1 ⟨y, q1, q2, q⟩ => by subst q1; simp only []; rw [if_pos q2]; exact q)
theorem kjs {ms : List SemE} {acc y : Str} {Q : Od → En → Prop} {e1 : En} (q2 : (acc ++ y).length ≤ sizeLine) (q : W (eJs ms (acc ++ y) e1) Q) : KJs ms acc Q (.r (.str y)) e1 := ⟨y, rfl, q2, q⟩
theorem gAdd_ss {x y : Str} (h : x.length + y.length ≤ sizeLine) : gAdd (.str x) (.str y) = some (.r (.str (x ++ y))) := by simp only [gAdd, h, if_true]
theorem w_inmG {i : Nat} {e : En} {Q : List T × (En → Prop) → En → Prop} {si : Sl} {ts : List T} (h1 : e[i]? = some si) (h3 : seqOf si = some (.inl ts)) (q : Q (ts, fun e' => e'[i]? = some si) e) : W (iNmG i e) Q :=
  ⟨_, _, by unfold iNmG; simp only [h1, h3], q⟩
end Wp

set_option Elab.async false
set_option linter.all false
namespace Wp
open PySem PySem.Spec PyProof.Rows L2 Ev
/-! ### texts -/
def KSM1b (f : Str → Str → Option Od) (a : Str) (Q : Od → En → Prop) : Od → En → Prop := fun r e => ∃ b w, r = .r (.str b) ∧ f a b = some w ∧ Q w e
def KSM1 (f : Str → Str → Option Od) (m : SemE) (Q : Od → En → Prop) : Od → En → Prop := fun r e => ∃ a, r = .r (.str a) ∧ W (m e) (KSM1b f a Q)
def KSM0 (f : Str → Option Od) (Q : Od → En → Prop) : Od → En → Prop := fun r e => ∃ a w, r = .r (.str a) ∧ f a = some w ∧ Q w e
theorem ksm1b {f : Str → Str → Option Od} {a b : Str} {Q : Od → En → Prop} {e : En} {w : Od} (h : f a b = some w) (q : Q w e) : KSM1b f a Q (.r (.str b)) e := ⟨b, w, rfl, h, q⟩
theorem ksm1 {f : Str → Str → Option Od} {m : SemE} {a : Str} {Q : Od → En → Prop} {e : En} (h : W (m e) (KSM1b f a Q)) : KSM1 f m Q (.r (.str a)) e := ⟨a, rfl, h⟩
theorem ksm0 {f : Str → Option Od} {a : Str} {Q : Od → En → Prop} {e : En} {w : Od} (h : f a = some w) (q : Q w e) : KSM0 f Q (.r (.str a)) e := ⟨a, w, rfl, h, q⟩
theorem w_sm1 {f : Str → Str → Option Od} {mo m : SemE} {Q : Od → En → Prop} {e : En} (h : W (mo e) (KSM1 f m Q)) : W (eSM1 f mo m e) Q := by
  unfold eSM1
  refine w_bind (w_imp h ?_)
  rintro _ e1 ⟨a, rfl, h2⟩
  refine w_bind (w_imp h2 ?_)
  rintro _ e2 ⟨b, w, rfl, h3, q⟩
  exact w_of (by simp only [h3]) q
theorem w_sm0 {f : Str → Option Od} {mo : SemE} {Q : Od → En → Prop} {e : En} (h : W (mo e) (KSM0 f Q)) : W (eSM0 f mo e) Q := by
  unfold eSM0
  refine w_bind (w_imp h ?_)
  rintro _ e1 ⟨a, w, rfl, h3, q⟩
  exact w_of (by simp only [h3]) q
def KSlS2 (z : Str) (l : Option Int) (Q : Od → En → Prop) : Option Int → En → Prop := fun h e => z.length ≤ sizeLine ∧ Q (.r (.str (cutS z l h))) e
def KSlS1 (z : Str) (hi : SemP) (Q : Od → En → Prop) : Option Int → En → Prop := fun l e => W (hi e) (KSlS2 z l Q)
def KSlS (lo hi : SemP) (Q : Od → En → Prop) : Od → En → Prop := fun r e => ∃ z, r = .r (.str z) ∧ W (lo e) (KSlS1 z hi Q)
theorem ksls3 {z : Str} {l h : Option Int} {Q : Od → En → Prop} {e : En} (hz : z.length ≤ sizeLine) (q : Q (.r (.str (cutS z l h))) e) : KSlS2 z l Q h e := ⟨hz, q⟩
theorem ksls2 {z : Str} {hi : SemP} {l : Option Int} {Q : Od → En → Prop} {e : En} (h : W (hi e) (KSlS2 z l Q)) : KSlS1 z hi Q l e := h
theorem ksls1 {z : Str} {lo hi : SemP} {Q : Od → En → Prop} {e : En} (h : W (lo e) (KSlS1 z hi Q)) : KSlS lo hi Q (.r (.str z)) e := ⟨z, rfl, h⟩
theorem w_slS {m : SemE} {lo hi : SemP} {Q : Od → En → Prop} {e : En} (h : W (m e) (KSlS lo hi Q)) : W (eSlS m lo hi e) Q := by
  unfold eSlS
  refine w_bind (w_imp h ?_)
  rintro _ e1 ⟨z, rfl, h2⟩
  refine w_bind (w_imp h2 ?_)
  intro l e2 h3
  refine w_bind (w_imp h3 ?_)
  intro u e3 ⟨hz, q⟩
  exact w_of (if_pos hz) q
end Wp

set_option Elab.async false
set_option linter.all false
namespace Wp
open PySem PySem.Spec PyProof.Rows L2 Ev
/-! ### signs of texts -/
def KItx (Q : List T → En → Prop) : Od → En → Prop := fun r e => ∃ z, r = .r (.str z) ∧ Q (signsT z) e
theorem w_itx {m : SemE} {Q : List T → En → Prop} {e : En} (h : W (m e) (KItx Q)) : W (iTx m e) Q := by
  unfold iTx
  refine w_bind (w_imp h ?_)
  rintro _ e1 ⟨z, rfl, q⟩
  exact w_of rfl q
theorem kitx {z : Str} {Q : List T → En → Prop} {e : En} (q : Q (signsT z) e) : KItx Q (.r (.str z)) e := ⟨z, rfl, q⟩
/-! ### replace -/
def KRepl2 (y x : Str) (zs : List Str) (Q : Od → En → Prop) : Od → En → Prop := fun r e => ∃ (k : Nat) (z : Str), r = .r (.int (k : Int)) ∧ x.length ≤ 1000000 ∧ zs[k]? = some z ∧ ((y == z) = false ∧ z.length ≤ 10) ∧ Q (.r (.str (Txt.replace x y z))) e
def KRepl (y : Str) (zs : List Str) (mi : SemE) (Q : Od → En → Prop) : Od → En → Prop := fun r e => ∃ x, r = .r (.str x) ∧ W (mi e) (KRepl2 y x zs Q)
theorem w_repl {mo mi : SemE} {y : Str} {zs : List Str} {Q : Od → En → Prop} {e : En} (h : W (mo e) (KRepl y zs mi Q)) : W (eRepl mo y zs mi e) Q := by
  unfold eRepl
  refine w_bind (w_imp h ?_)
  rintro _ e1 ⟨x, rfl, h2⟩
  refine w_bind (w_imp h2 ?_)
  rintro _ e2 ⟨k, z, rfl, hx, hz, h3, q⟩
  refine w_of ?_ q
  show (if 0 ≤ (k : Int) ∧ x.length ≤ 1000000 then _ else _) = _
  rw [if_pos ⟨by omega, hx⟩]
  simp only [Int.toNat_natCast, hz]
  rw [if_pos h3]
theorem krepl1 {y x : Str} {zs : List Str} {mi : SemE} {Q : Od → En → Prop} {e : En} (h : W (mi e) (KRepl2 y x zs Q)) : KRepl y zs mi Q (.r (.str x)) e := ⟨x, rfl, h⟩
theorem krepl2 {y x z : Str} {zs : List Str} {Q : Od → En → Prop} {e : En} {k : Nat} (hx : x.length ≤ 1000000) (hz : zs[k]? = some z) (h3 : (y == z) = false ∧ z.length ≤ 10) (q : Q (.r (.str (Txt.replace x y z))) e) : KRepl2 y x zs Q (.r (.int (k : Int))) e := ⟨k, z, rfl, hx, hz, h3, q⟩
/-! ### what raises -/
def Wx {α : Type} (o : Out α) (c : Str) (t : T) (Q : En → Prop) : Prop := ∃ e, o = .exc c t e ∧ Q e
section
variable {α β : Type} {c : Str} {t : T} {Q : En → Prop} {e : En}
theorem wx_imp {o : Out α} {P : En → Prop} (h : Wx o c t P) (q : ∀ e, P e → Q e) : Wx o c t Q := by
  obtain ⟨e, h1, h2⟩ := h
  exact ⟨e, h1, q e h2⟩
theorem wx_bind1 {o : Out α} {f : α → En → Out β} (h : Wx o c t Q) : Wx (o.bind f) c t Q := by
  obtain ⟨e, h1, h2⟩ := h
  exact ⟨e, by rw [h1]; rfl, h2⟩
theorem wx_bind2 {o : Out α} {f : α → En → Out β} (h : W o fun a e => Wx (f a e) c t Q) : Wx (o.bind f) c t Q := by
  obtain ⟨a, e1, h1, e2, h2, h3⟩ := h
  exact ⟨e2, by rw [h1]; exact h2, h3⟩
theorem wx_seq1 {a b : SemS} (h : Wx (a e) c t Q) : Wx (sSeq a b e) c t Q := by
  obtain ⟨e1, h1, h2⟩ := h
  exact ⟨e1, by unfold sSeq; rw [h1], h2⟩
def XSeq (b : SemS) (c : Str) (t : T) (Q : En → Prop) : Fl → En → Prop := fun fl e1 => fl = .nx ∧ Wx (b e1) c t Q
theorem wx_seq2 {a b : SemS} (h : W (a e) (XSeq b c t Q)) : Wx (sSeq a b e) c t Q := by
  obtain ⟨_, e1, h1, rfl, e2, h2, h3⟩ := h
  exact ⟨e2, by unfold sSeq; rw [h1]; exact h2, h3⟩
theorem wx_if_t {ct : SemT} {m1 m2 : SemS} (h : W (ct e) fun k e1 => k = true ∧ Wx (m1 e1) c t Q) : Wx (sIf ct m1 m2 e) c t Q := by
  obtain ⟨k, e1, h1, rfl, e2, h2, h3⟩ := h
  exact ⟨e2, by unfold sIf; rw [h1]; exact h2, h3⟩
theorem wx_eif_t {ct : SemT} {m1 m2 : SemE} (h : W (ct e) fun k e1 => k = true ∧ Wx (m1 e1) c t Q) : Wx (eIf ct m1 m2 e) c t Q := by
  obtain ⟨k, e1, h1, rfl, e2, h2, h3⟩ := h
  exact ⟨e2, by unfold eIf; rw [h1]; exact h2, h3⟩
theorem wx_eif_f {ct : SemT} {m1 m2 : SemE} (h : W (ct e) fun k e1 => k = false ∧ Wx (m2 e1) c t Q) : Wx (eIf ct m1 m2 e) c t Q := by
  obtain ⟨k, e1, h1, rfl, e2, h2, h3⟩ := h
  exact ⟨e2, by unfold eIf; rw [h1]; exact h2, h3⟩
theorem wx_ret {m : SemE} (h : Wx (m e) c t Q) : Wx (sRet m e) c t Q := wx_bind1 h
theorem wx_set {i : Nat} {m : SemE} (h : Wx (m e) c t Q) : Wx (sSet i m e) c t Q := wx_bind1 h
theorem wx_raise {me : SemE} (h : W (me e) fun r e1 => r = .r t ∧ Q e1) : Wx (sRaise c me e) c t Q := by
  obtain ⟨_, e1, h1, rfl, h2⟩ := h
  exact ⟨e1, by unfold sRaise; rw [h1]; rfl, h2⟩
theorem wx_callR {m : FSem} {rs : List Od} {e1 : En} {ss : List Sl} (h1 : toSls e1 rs = some ss) (h2 : (sIdx rs).Nodup) (h : Wx (m ss) c t fun ss' => Q (wb rs ss' e1)) : Wx (eCallR m rs e1) c t Q := by
  obtain ⟨ss', h3, q⟩ := h
  unfold eCallR
  simp only [h1, h2, h3, if_true]
  exact ⟨_, rfl, q⟩
def XCall (n : Nat) (m : FSem) (c : Str) (t : T) (Q : En → Prop) : List Od → En → Prop := fun rs e1 => rs.length = n ∧ ∃ ss, toSls e1 rs = some ss ∧ (sIdx rs).Nodup ∧ Wx (m ss) c t fun ss' => Q (wb rs ss' e1)
theorem wx_call {n : Nat} {m : FSem} {ma : SemA} (h : W (ma e) (XCall n m c t Q)) : Wx (eCall n m ma e) c t Q :=
  wx_bind2 (w_imp h fun rs e1 ⟨h1, ss, h2, h3, h4⟩ => by rw [if_pos h1]; exact wx_callR h2 h3 h4)
theorem xcall {n : Nat} {m : FSem} {rs : List Od} {e1 : En} {ss : List Sl} (h1 : rs.length = n) (h2 : toSls e1 rs = some ss) (h3 : (sIdx rs).Nodup) (h : Wx (m ss) c t fun ss' => Q (wb rs ss' e1)) : XCall n m c t Q rs e1 := ⟨h1, ss, h2, h3, h⟩
def XCallK (n : Nat) (perm : List Nat) (m : FSem) (c : Str) (t : T) (Q : En → Prop) : List Od → En → Prop := fun rs e1 => ((pick perm rs).length = n ∧ rs.length = n ∧ perm.Nodup) ∧ ∃ ss, toSls e1 (pick perm rs) = some ss ∧ (sIdx (pick perm rs)).Nodup ∧ Wx (m ss) c t fun ss' => Q (wb (pick perm rs) ss' e1)
theorem wx_callk {n : Nat} {perm : List Nat} {m : FSem} {ma : SemA} (h : W (ma e) (XCallK n perm m c t Q)) : Wx (eCallK n perm m ma e) c t Q :=
  wx_bind2 (w_imp h fun rs e1 ⟨h1, ss, h2, h3, h4⟩ => by rw [if_pos h1]; exact wx_callR h2 h3 h4)
theorem xcallk {n : Nat} {perm : List Nat} {m : FSem} {rs : List Od} {e1 : En} {ss : List Sl} (h0 : perm.Nodup) (h1 : (pick perm rs).length = n ∧ rs.length = n) (h2 : toSls e1 (pick perm rs) = some ss) (h3 : (sIdx (pick perm rs)).Nodup) (h : Wx (m ss) c t fun ss' => Q (wb (pick perm rs) ss' e1)) : XCallK n perm m c t Q rs e1 := ⟨⟨h1.1, h1.2, h0⟩, ss, h2, h3, h⟩
theorem wx_fun {n : Nat} {b : SemS} {ss : List Sl} {e0 : En} (h0 : ss.all okArg = true) (he : e0 = ss ++ List.replicate (n - ss.length) .un) (h : Wx (b e0) c t fun e' => Q (finE ss e')) : Wx (runFn n b ss) c t Q := by
  obtain ⟨e', h1, q⟩ := h
  unfold runFn
  rw [if_pos h0, ← he, h1]
  exact ⟨_, rfl, q⟩
end
theorem w_try_ok {cs : List Str} {mb : SemS} {hs : Hds} {Q : Fl → En → Prop} {e : En} (h : W (mb e) Q) : W (sTry cs mb hs e) Q := by
  obtain ⟨a, e1, h1, q⟩ := h
  exact ⟨a, e1, by unfold sTry; rw [h1], q⟩
theorem w_try_x {cs : List Str} {mb : SemS} {hs : Hds} {Q : Fl → En → Prop} {e : En} {c : Str} {t : T} (hc : cs.contains c = true) (h : Wx (mb e) c t fun e1 => W (hrun c t e1 hs) Q) : W (sTry cs mb hs e) Q := by
  obtain ⟨e1, h1, q⟩ := h
  unfold sTry
  rw [h1]
  simp only [hc, if_true]
  exact q
end Wp

set_option linter.all false
namespace Mt
abbrev Pt := Int × Int × Nat
def part (ks : List (List Pt)) (k j : Nat) : Pt := (((ks[k]?).getD [])[j]?).getD (0, 0, 0)
structure Good (B : Nat) (ks : List (List Pt)) : Prop where
  hb : B = 2 ∨ B = 3
  pos : 0 < ks.length
  few : ks.length ≤ 20
  len : ∀ ps ∈ ks, ps.length = B * B
  rng : ∀ ps ∈ ks, ∀ p ∈ ps, (0 ≤ p.1 ∧ p.1 < (B : Int)) ∧ (0 ≤ p.2.1 ∧ p.2.1 < (B : Int)) ∧ p.2.2 < ks.length
  nod : ∀ ps ∈ ks, (ps.map fun p => (p.1, p.2.1)).Nodup
theorem Good.row {B : Nat} {ks : List (List Pt)} (g : Good B ks) {k : Nat} (hk : k < ks.length) : ∃ ps, ks[k]? = some ps ∧ ps ∈ ks ∧ ps.length = B * B :=
  ⟨ks[k], List.getElem?_eq_getElem hk, List.getElem_mem hk, g.len _ (List.getElem_mem hk)⟩
theorem Good.at_ {B : Nat} {ks : List (List Pt)} (g : Good B ks) {k j : Nat} (hk : k < ks.length) (hj : j < B * B) : ∃ ps, ks[k]? = some ps ∧ ps[j]? = some (part ks k j) ∧ part ks k j ∈ ps ∧ ps ∈ ks := by
  obtain ⟨ps, h1, h2, h3⟩ := g.row hk
  have h4 : ps[j]? = some (ps[j]'(by omega)) := List.getElem?_eq_getElem (by omega)
  have h5 : part ks k j = ps[j]'(by omega) := by unfold part; rw [h1, Option.getD_some, h4, Option.getD_some]
  exact ⟨ps, h1, by rw [h5]; exact h4, by rw [h5]; exact List.getElem_mem _, h2⟩
/-- figures, the greatest first -/
def digs (N n : Nat) : Nat → List Nat
  | 0 => []
  | d + 1 => (n / N ^ d % N) :: digs N n d
abbrev S3 := Nat × Int × Int
def stp (B : Nat) (ks : List (List Pt)) (s : S3) (j : Nat) : S3 := ((part ks s.1 j).2.2, s.2.1 * (B : Int) + (part ks s.1 j).1, s.2.2 * (B : Int) + (part ks s.1 j).2.1)
def run (B : Nat) (ks : List (List Pt)) (s : S3) (ds : List Nat) : S3 := ds.foldl (stp B ks) s
/-- the cell of a number -/
def cellF (B : Nat) (ks : List (List Pt)) (k d n : Nat) : Int × Int := (run B ks (k, 0, 0) (digs (B * B) n d)).2
def mv (B d : Nat) (p : Pt) (c : Int × Int) : Int × Int := (p.1 * (B : Int) ^ d + c.1, p.2.1 * (B : Int) ^ d + c.2)
end Mt

set_option linter.all false
namespace Mt
/-! ### from the cell back to the number -/
/-- a number of figures -/
def num (N : Nat) (ds : List Nat) : Nat := ds.foldl (fun a j => a * N + j) 0
/-! ### a book begun elsewhere -/
end Mt
namespace Mt
end Mt

set_option linter.all false
namespace Mt
/-! ### postures, and backward, at all depths -/
def qz1 (w : Int) (c : Int × Int) : Int × Int := (w - 1 - c.2, c.1)
def qz (w : Int) (way mir : Nat) (c : Int × Int) : Int × Int :=
  let d := (match way with | 0 => c | 1 => qz1 w c | 2 => qz1 w (qz1 w c) | _ => qz1 w (qz1 w (qz1 w c)))
  match mir with | 0 => d | _ => (d.2, d.1)
/-- a part in a posture -/
def tq (B : Nat) (way mir : Nat) (p : Pt) : Pt := ((qz (B : Int) way mir (p.1, p.2.1)).1, (qz (B : Int) way mir (p.1, p.2.1)).2, p.2.2)
/-! #### backward -/
end Mt

set_option linter.all false
namespace Mt
/-! ### threads that are the same at all depths -/
/-! ### postures of a thread -/
def rvn (N b d n : Nat) : Nat := if b = 1 then N ^ d - 1 - n else n
/-- the thread of kind 0 is the same in a posture, gone so -/
def Pos (B : Nat) (ks : List (List Pt)) (p : Nat × Nat) (b : Nat) : Prop := ∀ d n, n < (B * B) ^ d → qz ((B : Int) ^ d) p.1 p.2 (cellF B ks 0 d (rvn (B * B) b d n)) = cellF B ks 0 d n
end Mt

namespace Lw
set_option linter.all false
set_option maxRecDepth 100000
set_option maxHeartbeats 4000000
open PySem PySem.Spec Ev Pu Mt Wp
def isW : T → Bool
  | .int _ => true
  | _ => false
def isC : T → Bool
  | .int i => decide (0 ≤ i)
  | _ => false
def isI (n : Int) : T → Bool
  | .int i => decide (0 ≤ i ∧ i < n)
  | _ => false
theorem is_whole_ok (t : T) : m_is_whole [.v t] = .ok (.r (.bool (isW t))) [.v t] := by
  cases t <;> rfl
theorem is_count_ok (t : T) : m_is_count [.v t] = .ok (.r (.bool (isC t))) [.v t] := by
  cases t with
  | int i => simp only [m_is_count, b_is_count, is_whole_ok, eMLenE, eRep, eDLen, eNNew, eNLen, eListRng, gMax1, gSum, eMIn, eMInE, sMPut, eMNew, eMDict1, eMLen, eListZip, Option.isSome_none, Option.isSome_some, eMut, gAppend, gInsert, eRev, eIndex, eLenSet, gInt, gLen, gTuple, gList, gAbs, gMax2, gMin2, gDivmod, gEq_int, runFn, sSeq, sIf, sSet, sSetIx, sRet, sRetN, sNil, sDrop, sAsg, sFor, sPar, sNever, setO, retO, setOs, presc, eVar, eK, eTwo, v2, eFn, eDisp, eTup, eLst, eCall, eCallR, eCallK, pick, toSl, toSls, sIdx, wb, bk, esc, escs, vals, aNil, aCons, tb, Ev.tNot, Ev.tAnd, Ev.tOr, gGt, gLt, gGe, gLe, gSub, gMod, gDiv, gPow, gAdd, gMul, gInt, mulOk, g1, g2, fInt, fLen, fTuple, fList, fAbs, eAnd, eOr, eNot, eIf, eNeg, eIsi, gII, gIx, gIsN, gN, gT, gsNil, gsCons, isLent_eq, lentO, lentS_v, lentS_un, lentS_f, lentS_t, lentS_z, finE, okArg, Out.bind, Od.val, slVal, Bx.tr, Bx.t, isN, L2.ixN, L2.atI, isInt, isBool, isTuple, isList, isStr, isDict, isTL, Nat.zero_le, id_eq, eq_self, Pu.c0, Pu.c1, Pu.c2, Pu.c3, Pu.c4, Pu.c5, Pu.c6, Pu.c7, Pu.c8, Pu.c9, Pu.s1, Pu.s2, Pu.s3, Pu.s4, Pu.s5, Pu.s6, Pu.s7, Pu.s8, Pu.s9, Int.reduceEq, Nat.reduceMul, Int.ofNat_eq_natCast, wipeE, restE, exists_eq_left', Option.some.injEq, Out.ok.injEq, Prod.mk.injEq, Option.bind_some, Option.bind_none, Option.bind_eq_bind, List.getElem?_cons_zero, List.getElem?_cons_succ, List.getElem?_nil, List.set_cons_zero, List.set_cons_succ, List.set_nil, List.length_cons, List.length_nil, List.replicate_succ, List.replicate_zero, List.cons_append, List.nil_append, List.append_nil, List.all_cons, List.all_nil, Bool.and_true, Bool.true_and, Bool.and_false, Bool.false_and, if_true, if_false, ite_true, ite_false, List.nodup_cons, List.nodup_nil, List.not_mem_nil, List.mem_cons, not_false_eq_true, and_true, true_and, reduceIte, Nat.reduceAdd, Nat.reduceSub, Nat.reduceEqDiff, Nat.reduceLT, Nat.reduceLeDiff, Option.map_some, Option.map_none, Option.getD_some, reduceCtorEq, or_self, or_false, false_or, not_true_eq_false, decide_true, decide_false, Bool.not_true, Bool.not_false, Bool.false_eq_true, Nat.zero_add, Nat.add_zero, forall_const, Int.reduceLT, Int.reduceLE, Int.reduceNeg, Int.reduceToNat, Int.toNat_natCast, and_self, isW, isC]
  | _ => simp only [m_is_count, b_is_count, is_whole_ok, eMLenE, eRep, eDLen, eNNew, eNLen, eListRng, gMax1, gSum, eMIn, eMInE, sMPut, eMNew, eMDict1, eMLen, eListZip, Option.isSome_none, Option.isSome_some, eMut, gAppend, gInsert, eRev, eIndex, eLenSet, gInt, gLen, gTuple, gList, gAbs, gMax2, gMin2, gDivmod, gEq_int, runFn, sSeq, sIf, sSet, sSetIx, sRet, sRetN, sNil, sDrop, sAsg, sFor, sPar, sNever, setO, retO, setOs, presc, eVar, eK, eTwo, v2, eFn, eDisp, eTup, eLst, eCall, eCallR, eCallK, pick, toSl, toSls, sIdx, wb, bk, esc, escs, vals, aNil, aCons, tb, Ev.tNot, Ev.tAnd, Ev.tOr, gGt, gLt, gGe, gLe, gSub, gMod, gDiv, gPow, gAdd, gMul, gInt, mulOk, g1, g2, fInt, fLen, fTuple, fList, fAbs, eAnd, eOr, eNot, eIf, eNeg, eIsi, gII, gIx, gIsN, gN, gT, gsNil, gsCons, isLent_eq, lentO, lentS_v, lentS_un, lentS_f, lentS_t, lentS_z, finE, okArg, Out.bind, Od.val, slVal, Bx.tr, Bx.t, isN, L2.ixN, L2.atI, isInt, isBool, isTuple, isList, isStr, isDict, isTL, Nat.zero_le, id_eq, eq_self, Pu.c0, Pu.c1, Pu.c2, Pu.c3, Pu.c4, Pu.c5, Pu.c6, Pu.c7, Pu.c8, Pu.c9, Pu.s1, Pu.s2, Pu.s3, Pu.s4, Pu.s5, Pu.s6, Pu.s7, Pu.s8, Pu.s9, Int.reduceEq, Nat.reduceMul, Int.ofNat_eq_natCast, wipeE, restE, exists_eq_left', Option.some.injEq, Out.ok.injEq, Prod.mk.injEq, Option.bind_some, Option.bind_none, Option.bind_eq_bind, List.getElem?_cons_zero, List.getElem?_cons_succ, List.getElem?_nil, List.set_cons_zero, List.set_cons_succ, List.set_nil, List.length_cons, List.length_nil, List.replicate_succ, List.replicate_zero, List.cons_append, List.nil_append, List.append_nil, List.all_cons, List.all_nil, Bool.and_true, Bool.true_and, Bool.and_false, Bool.false_and, if_true, if_false, ite_true, ite_false, List.nodup_cons, List.nodup_nil, List.not_mem_nil, List.mem_cons, not_false_eq_true, and_true, true_and, reduceIte, Nat.reduceAdd, Nat.reduceSub, Nat.reduceEqDiff, Nat.reduceLT, Nat.reduceLeDiff, Option.map_some, Option.map_none, Option.getD_some, reduceCtorEq, or_self, or_false, false_or, not_true_eq_false, decide_true, decide_false, Bool.not_true, Bool.not_false, Bool.false_eq_true, Nat.zero_add, Nat.add_zero, forall_const, Int.reduceLT, Int.reduceLE, Int.reduceNeg, Int.reduceToNat, Int.toNat_natCast, and_self, isW, isC]
theorem is_index_ok (t : T) (n : Int) : m_is_index [.v t, .v (.int n)] = .ok (.r (.bool (isI n t))) [.v t, .v (.int n)] := by
  cases t with
  | int i => 
    by_cases h : 0 ≤ i
    · simp only [m_is_index, b_is_index, is_count_ok, eMLenE, eRep, eDLen, eNNew, eNLen, eListRng, gMax1, gSum, eMIn, eMInE, sMPut, eMNew, eMDict1, eMLen, eListZip, Option.isSome_none, Option.isSome_some, eMut, gAppend, gInsert, eRev, eIndex, eLenSet, gInt, gLen, gTuple, gList, gAbs, gMax2, gMin2, gDivmod, gEq_int, runFn, sSeq, sIf, sSet, sSetIx, sRet, sRetN, sNil, sDrop, sAsg, sFor, sPar, sNever, setO, retO, setOs, presc, eVar, eK, eTwo, v2, eFn, eDisp, eTup, eLst, eCall, eCallR, eCallK, pick, toSl, toSls, sIdx, wb, bk, esc, escs, vals, aNil, aCons, tb, Ev.tNot, Ev.tAnd, Ev.tOr, gGt, gLt, gGe, gLe, gSub, gMod, gDiv, gPow, gAdd, gMul, gInt, mulOk, g1, g2, fInt, fLen, fTuple, fList, fAbs, eAnd, eOr, eNot, eIf, eNeg, eIsi, gII, gIx, gIsN, gN, gT, gsNil, gsCons, isLent_eq, lentO, lentS_v, lentS_un, lentS_f, lentS_t, lentS_z, finE, okArg, Out.bind, Od.val, slVal, Bx.tr, Bx.t, isN, L2.ixN, L2.atI, isInt, isBool, isTuple, isList, isStr, isDict, isTL, Nat.zero_le, id_eq, eq_self, Pu.c0, Pu.c1, Pu.c2, Pu.c3, Pu.c4, Pu.c5, Pu.c6, Pu.c7, Pu.c8, Pu.c9, Pu.s1, Pu.s2, Pu.s3, Pu.s4, Pu.s5, Pu.s6, Pu.s7, Pu.s8, Pu.s9, Int.reduceEq, Nat.reduceMul, Int.ofNat_eq_natCast, wipeE, restE, exists_eq_left', Option.some.injEq, Out.ok.injEq, Prod.mk.injEq, Option.bind_some, Option.bind_none, Option.bind_eq_bind, List.getElem?_cons_zero, List.getElem?_cons_succ, List.getElem?_nil, List.set_cons_zero, List.set_cons_succ, List.set_nil, List.length_cons, List.length_nil, List.replicate_succ, List.replicate_zero, List.cons_append, List.nil_append, List.append_nil, List.all_cons, List.all_nil, Bool.and_true, Bool.true_and, Bool.and_false, Bool.false_and, if_true, if_false, ite_true, ite_false, List.nodup_cons, List.nodup_nil, List.not_mem_nil, List.mem_cons, not_false_eq_true, and_true, true_and, reduceIte, Nat.reduceAdd, Nat.reduceSub, Nat.reduceEqDiff, Nat.reduceLT, Nat.reduceLeDiff, Option.map_some, Option.map_none, Option.getD_some, reduceCtorEq, or_self, or_false, false_or, not_true_eq_false, decide_true, decide_false, Bool.not_true, Bool.not_false, Bool.false_eq_true, Nat.zero_add, Nat.add_zero, forall_const, Int.reduceLT, Int.reduceLE, Int.reduceNeg, Int.reduceToNat, Int.toNat_natCast, and_self, isC, isI, h]
    · simp only [m_is_index, b_is_index, is_count_ok, eMLenE, eRep, eDLen, eNNew, eNLen, eListRng, gMax1, gSum, eMIn, eMInE, sMPut, eMNew, eMDict1, eMLen, eListZip, Option.isSome_none, Option.isSome_some, eMut, gAppend, gInsert, eRev, eIndex, eLenSet, gInt, gLen, gTuple, gList, gAbs, gMax2, gMin2, gDivmod, gEq_int, runFn, sSeq, sIf, sSet, sSetIx, sRet, sRetN, sNil, sDrop, sAsg, sFor, sPar, sNever, setO, retO, setOs, presc, eVar, eK, eTwo, v2, eFn, eDisp, eTup, eLst, eCall, eCallR, eCallK, pick, toSl, toSls, sIdx, wb, bk, esc, escs, vals, aNil, aCons, tb, Ev.tNot, Ev.tAnd, Ev.tOr, gGt, gLt, gGe, gLe, gSub, gMod, gDiv, gPow, gAdd, gMul, gInt, mulOk, g1, g2, fInt, fLen, fTuple, fList, fAbs, eAnd, eOr, eNot, eIf, eNeg, eIsi, gII, gIx, gIsN, gN, gT, gsNil, gsCons, isLent_eq, lentO, lentS_v, lentS_un, lentS_f, lentS_t, lentS_z, finE, okArg, Out.bind, Od.val, slVal, Bx.tr, Bx.t, isN, L2.ixN, L2.atI, isInt, isBool, isTuple, isList, isStr, isDict, isTL, Nat.zero_le, id_eq, eq_self, Pu.c0, Pu.c1, Pu.c2, Pu.c3, Pu.c4, Pu.c5, Pu.c6, Pu.c7, Pu.c8, Pu.c9, Pu.s1, Pu.s2, Pu.s3, Pu.s4, Pu.s5, Pu.s6, Pu.s7, Pu.s8, Pu.s9, Int.reduceEq, Nat.reduceMul, Int.ofNat_eq_natCast, wipeE, restE, exists_eq_left', Option.some.injEq, Out.ok.injEq, Prod.mk.injEq, Option.bind_some, Option.bind_none, Option.bind_eq_bind, List.getElem?_cons_zero, List.getElem?_cons_succ, List.getElem?_nil, List.set_cons_zero, List.set_cons_succ, List.set_nil, List.length_cons, List.length_nil, List.replicate_succ, List.replicate_zero, List.cons_append, List.nil_append, List.append_nil, List.all_cons, List.all_nil, Bool.and_true, Bool.true_and, Bool.and_false, Bool.false_and, if_true, if_false, ite_true, ite_false, List.nodup_cons, List.nodup_nil, List.not_mem_nil, List.mem_cons, not_false_eq_true, and_true, true_and, reduceIte, Nat.reduceAdd, Nat.reduceSub, Nat.reduceEqDiff, Nat.reduceLT, Nat.reduceLeDiff, Option.map_some, Option.map_none, Option.getD_some, reduceCtorEq, or_self, or_false, false_or, not_true_eq_false, decide_true, decide_false, Bool.not_true, Bool.not_false, Bool.false_eq_true, Nat.zero_add, Nat.add_zero, forall_const, Int.reduceLT, Int.reduceLE, Int.reduceNeg, Int.reduceToNat, Int.toNat_natCast, and_self, isC, isI, h, false_and]
  | _ => simp only [m_is_index, b_is_index, is_count_ok, eMLenE, eRep, eDLen, eNNew, eNLen, eListRng, gMax1, gSum, eMIn, eMInE, sMPut, eMNew, eMDict1, eMLen, eListZip, Option.isSome_none, Option.isSome_some, eMut, gAppend, gInsert, eRev, eIndex, eLenSet, gInt, gLen, gTuple, gList, gAbs, gMax2, gMin2, gDivmod, gEq_int, runFn, sSeq, sIf, sSet, sSetIx, sRet, sRetN, sNil, sDrop, sAsg, sFor, sPar, sNever, setO, retO, setOs, presc, eVar, eK, eTwo, v2, eFn, eDisp, eTup, eLst, eCall, eCallR, eCallK, pick, toSl, toSls, sIdx, wb, bk, esc, escs, vals, aNil, aCons, tb, Ev.tNot, Ev.tAnd, Ev.tOr, gGt, gLt, gGe, gLe, gSub, gMod, gDiv, gPow, gAdd, gMul, gInt, mulOk, g1, g2, fInt, fLen, fTuple, fList, fAbs, eAnd, eOr, eNot, eIf, eNeg, eIsi, gII, gIx, gIsN, gN, gT, gsNil, gsCons, isLent_eq, lentO, lentS_v, lentS_un, lentS_f, lentS_t, lentS_z, finE, okArg, Out.bind, Od.val, slVal, Bx.tr, Bx.t, isN, L2.ixN, L2.atI, isInt, isBool, isTuple, isList, isStr, isDict, isTL, Nat.zero_le, id_eq, eq_self, Pu.c0, Pu.c1, Pu.c2, Pu.c3, Pu.c4, Pu.c5, Pu.c6, Pu.c7, Pu.c8, Pu.c9, Pu.s1, Pu.s2, Pu.s3, Pu.s4, Pu.s5, Pu.s6, Pu.s7, Pu.s8, Pu.s9, Int.reduceEq, Nat.reduceMul, Int.ofNat_eq_natCast, wipeE, restE, exists_eq_left', Option.some.injEq, Out.ok.injEq, Prod.mk.injEq, Option.bind_some, Option.bind_none, Option.bind_eq_bind, List.getElem?_cons_zero, List.getElem?_cons_succ, List.getElem?_nil, List.set_cons_zero, List.set_cons_succ, List.set_nil, List.length_cons, List.length_nil, List.replicate_succ, List.replicate_zero, List.cons_append, List.nil_append, List.append_nil, List.all_cons, List.all_nil, Bool.and_true, Bool.true_and, Bool.and_false, Bool.false_and, if_true, if_false, ite_true, ite_false, List.nodup_cons, List.nodup_nil, List.not_mem_nil, List.mem_cons, not_false_eq_true, and_true, true_and, reduceIte, Nat.reduceAdd, Nat.reduceSub, Nat.reduceEqDiff, Nat.reduceLT, Nat.reduceLeDiff, Option.map_some, Option.map_none, Option.getD_some, reduceCtorEq, or_self, or_false, false_or, not_true_eq_false, decide_true, decide_false, Bool.not_true, Bool.not_false, Bool.false_eq_true, Nat.zero_add, Nat.add_zero, forall_const, Int.reduceLT, Int.reduceLE, Int.reduceNeg, Int.reduceToNat, Int.toNat_natCast, and_self, isC, isI]
/-- places of parts -/
def pl : T → T
  | .tuple (x :: y :: _) => .tuple [x, y]
  | t => t
def i3 : T → List Int
  | .tuple (.int x :: .int y :: _) => [x, y]
  | _ => []
theorem gIn2 (k : Bool → Bool) (i j b : Int) : gIn k (.int b) (.tuple [.int i, .int j]) = some (.r (.bool (k (decide (i = b) || decide (j = b))))) := by
  show some (Od.r (.bool (k (decide (i = b) || (decide (j = b) || false))))) = _
  rw [Bool.or_false]
def cT (c : Int × Int) : T := .tuple [.int c.1, .int c.2]
theorem log2_small {i : Int} {k : Nat} (h : i.natAbs < 2 ^ k) (hk : 0 < k) : i.natAbs.log2 < k := by
  rcases Nat.eq_zero_or_pos i.natAbs with z | z
  · rw [z]; exact hk
  · exact (Nat.log2_lt (by omega)).mpr h
theorem pow_small {b : Int} (h0 : 0 ≤ b) (h1 : b ≤ 16) (k : Nat) (hk : k ≤ 200) : (b ^ k).natAbs.log2 < 801 := by
  refine log2_small ?_ (by omega)
  rw [Int.natAbs_pow]
  have : b.natAbs ^ k ≤ 16 ^ k := Nat.pow_le_pow_left (by omega) k
  have h2 : (16 : Nat) ^ k = 2 ^ (4 * k) := by rw [Nat.pow_mul]
  have h3 : 2 ^ (4 * k) < 2 ^ 801 := Nat.pow_lt_pow_right (by decide) (by omega)
  rw [h2] at this
  exact Nat.lt_of_le_of_lt this h3
abbrev nT (n : Nat) : T := .int (n : Int)
structure PlOk (B : Nat) (ps : List (Int × Int)) : Prop where
  len : ps.length = B * B
  nod : ps.Nodup
  rng : ∀ c ∈ ps, (0 ≤ c.1 ∧ c.1 < (B : Int)) ∧ (0 ≤ c.2 ∧ c.2 < (B : Int))
theorem PlOk.perm {B : Nat} {ps qs : List (Int × Int)} (h : PlOk B ps) (p : qs.Perm ps) : PlOk B qs :=
  ⟨p.length_eq.trans h.len, p.nodup_iff.mpr h.nod, fun c hc => h.rng c (p.mem_iff.mp hc)⟩
inductive Pl : Nat → T → Prop
  | int (n : Nat) (i : Int) : Pl n (.int i)
  | tup {n : Nat} {xs : List T} : (∀ x ∈ xs, Pl n x) → xs.length ≤ 100000 → Pl (n + 1) (.tuple xs)
  | lst {n : Nat} {xs : List T} : (∀ x ∈ xs, Pl n x) → xs.length ≤ 100000 → Pl (n + 1) (.list xs)
theorem layAll {xs : List T} (h : ∀ x ∈ xs, PyData.canLay0 x = true) : PyData.canLayAll0 xs = true := by
  induction xs with
  | nil => rfl
  | cons x xs ih => rw [PyData.canLayAll0, h x List.mem_cons_self, ih fun y hy => h y (List.mem_cons_of_mem _ hy)]; rfl
theorem depAll {n : Nat} {xs : List T} (h : ∀ x ∈ xs, PyData.depth x ≤ n) : PyData.depthAll xs ≤ n := by
  induction xs with
  | nil => exact Nat.zero_le _
  | cons x xs ih => rw [PyData.depthAll]; exact Nat.max_le.mpr ⟨h x List.mem_cons_self, ih fun y hy => h y (List.mem_cons_of_mem _ hy)⟩
theorem Pl.lay {n : Nat} {t : T} (h : Pl n t) : PyData.canLay0 t = true ∧ PyData.depth t ≤ n := by
  induction h with
  | int n i => exact ⟨rfl, Nat.zero_le _⟩
  | tup h hl ih => exact ⟨by rw [PyData.canLay0]; exact layAll fun x hx => (ih x hx).1, by rw [PyData.depth]; exact Nat.succ_le_succ (depAll fun x hx => (ih x hx).2)⟩
  | lst h hl ih => exact ⟨by rw [PyData.canLay0]; exact layAll fun x hx => (ih x hx).1, by rw [PyData.depth]; exact Nat.succ_le_succ (depAll fun x hx => (ih x hx).2)⟩
theorem Pl.shaped {n : Nat} {t : T} (h : Pl n t) (hn : n ≤ 64) : SeqAt.shaped t = true := by
  unfold SeqAt.shaped
  rw [h.lay.1, Bool.true_and]
  exact decide_eq_true (Nat.le_trans h.lay.2 hn)
theorem ix_list (xs : List T) (k : Nat) (x : T) (h : xs[k]? = some x) : gIx (.list xs) (.int (k : Int)) = some (.r x) := by
  obtain ⟨hk, e⟩ := List.getElem?_eq_some_iff.mp h
  simp [gIx, L2.atI, L2.ixN, hk, e]
theorem ix_tup (xs : List T) (k : Nat) (x : T) (h : xs[k]? = some x) : gIx (.tuple xs) (.int (k : Int)) = some (.r x) := by
  obtain ⟨hk, e⟩ := List.getElem?_eq_some_iff.mp h
  simp [gIx, L2.atI, L2.ixN, hk, e]
theorem all_refl {xs : List T} (h : ∀ x ∈ xs, PyData.eqv x x = true) : PyData.eqvAll xs xs = true := by
  induction xs with
  | nil => rfl
  | cons x xs ih => rw [PyData.eqvAll, h x List.mem_cons_self, ih fun y hy => h y (List.mem_cons_of_mem _ hy)]; rfl
theorem Pl.eqv {n : Nat} {t : T} (h : Pl n t) : PyData.eqv t t = true := by
  induction h with
  | int n i => rw [PyData.eqv]; simp
  | tup h hl ih => rw [PyData.eqv]; exact all_refl ih
  | lst h hl ih => rw [PyData.eqv]; exact all_refl ih
set_option linter.all false
set_option maxRecDepth 100000
set_option maxHeartbeats 4000000
open PySem PySem.Spec Ev Pu Mt Wp
local macro_rules | `(tactic| decreasing_trivial_pre_omega) => `(tactic| (first | ((with_reducible apply Wp.ksls3); (focus (assumption; done))) | fail))
local macro_rules | `(tactic| decreasing_trivial_pre_omega) => `(tactic| (first | ((with_reducible apply Wp.ksm0); (focus ((first | assumption | rfl); done))) | fail))
local macro_rules | `(tactic| decreasing_trivial_pre_omega) => `(tactic| (first | ((with_reducible apply Wp.ksm1b); (focus ((first | assumption | rfl); done))) | fail))
local macro_rules | `(tactic| decreasing_trivial_pre_omega) => `(tactic| (first | ((with_reducible apply Wp.kelt); (focus (rfl; done))) | fail))
local macro_rules | `(tactic| decreasing_trivial_pre_omega) => `(tactic| (first | ((with_reducible apply Wp.kaug); (focus (rfl; done)); (focus ((first | with_reducible assumption | with_reducible exact Wp.gEq_e _ _ | with_reducible exact Wp.gEq_n _ _ | with_reducible exact Wp.gEq_i _ _ _ | exact Wp.gAppend_ok (by assumption) | exact Wp.gIx_l (by assumption) | exact Wp.gIx_t (by assumption) | exact Wp.gStr_ok (by assumption) | exact Ev.gLenS_ok (by assumption) | exact Wp.gAdd_ss (by assumption) | exact Ev.gMulX_ok (by assumption) | exact Wp.gAdd_tt (by assumption) | exact Wp.gAdd_ll (by assumption) | exact Wp.gMul_ok (by assumption) | exact Wp.gMod_ok (by assumption) | exact Wp.gDiv_ok (by assumption) (by assumption) | rfl | assumption | exact Ev.gPowW_ok (by assumption)); done)); (focus (exact (by first | rfl | exact Wp.isLent_of rfl (by assumption)); done))) | fail))
local macro_rules | `(tactic| decreasing_trivial_pre_omega) => `(tactic| (first | ((with_reducible apply Wp.w_aug); (focus (rfl; done))) | fail))
local macro_rules | `(tactic| decreasing_trivial_pre_omega) => `(tactic| (first | ((with_reducible apply Wp.kenu); (focus (rfl; done))) | fail))
local macro_rules | `(tactic| decreasing_trivial_pre_omega) => `(tactic| (first | ((with_reducible apply Wp.kzip2_t); (focus (rfl; done))) | fail))
local macro_rules | `(tactic| decreasing_trivial_pre_omega) => `(tactic| (first | ((with_reducible apply Wp.kzip2_l); (focus (rfl; done))) | fail))
local macro_rules | `(tactic| decreasing_trivial_pre_omega) => `(tactic| (first | ((with_reducible apply Wp.w_izipV_r); (focus (rfl; done)); (focus (rfl; done)); (focus (rfl; done)); (focus (rfl; done))) | fail))
local macro_rules | `(tactic| decreasing_trivial_pre_omega) => `(tactic| (first | ((with_reducible apply Wp.w_izipV_l); (focus (rfl; done)); (focus (rfl; done)); (focus (rfl; done)); (focus (rfl; done))) | fail))
local macro_rules | `(tactic| decreasing_trivial_pre_omega) => `(tactic| (first | ((with_reducible apply Wp.w_inmG); (focus (rfl; done)); (focus (rfl; done))) | fail))
local macro_rules | `(tactic| decreasing_trivial_pre_omega) => `(tactic| (first | ((with_reducible apply Wp.kzip); (focus (rfl; done))) | fail))
local macro_rules | `(tactic| decreasing_trivial_pre_omega) => `(tactic| (first | ((with_reducible apply Wp.kr2w); (focus (rfl; done))) | fail))
local macro_rules | `(tactic| decreasing_trivial_pre_omega) => `(tactic| (first | ((with_reducible apply Wp.kputD); (focus (rfl; done)); (focus (rfl; done)); (focus (rfl; done)); (focus (assumption; done))) | fail))
local macro_rules | `(tactic| decreasing_trivial_pre_omega) => `(tactic| (first | ((with_reducible apply Wp.kputL); (focus (rfl; done)); (focus (rfl; done)); (focus ((first | rfl | assumption | exact Wp.ixN_nat (by assumption)); done))) | fail))
local macro_rules | `(tactic| decreasing_trivial_pre_omega) => `(tactic| (first | ((with_reducible apply Wp.putS_d); (focus (rfl; done))) | fail))
local macro_rules | `(tactic| decreasing_trivial_pre_omega) => `(tactic| (first | ((with_reducible apply Wp.putS_l); (focus (rfl; done))) | fail))
local macro_rules | `(tactic| decreasing_trivial_pre_omega) => `(tactic| (first | ((with_reducible apply Wp.kputS); (focus (rfl; done)); (focus (rfl; done)); (focus (rfl; done))) | fail))
local macro_rules | `(tactic| decreasing_trivial_pre_omega) => `(tactic| (first | ((with_reducible apply Wp.kdictp); (focus (rfl; done)); (focus (assumption; done))) | fail))
local macro_rules | `(tactic| decreasing_trivial_pre_omega) => `(tactic| (first | ((with_reducible apply Wp.ksetix2); (focus (rfl; done)); (focus (rfl; done)); (focus (rfl; done)); (focus ((first | rfl | assumption | exact Wp.ixN_nat (by assumption)); done))) | fail))
local macro_rules | `(tactic| decreasing_trivial_pre_omega) => `(tactic| (first | ((with_reducible apply Wp.ksetix1); (focus (rfl; done))) | fail))
local macro_rules | `(tactic| decreasing_trivial_pre_omega) => `(tactic| (first | ((with_reducible apply Wp.kdput2); (focus (rfl; done)); (focus (rfl; done)); (focus (rfl; done)); (focus (rfl; done)); (focus (assumption; done))) | fail))
local macro_rules | `(tactic| decreasing_trivial_pre_omega) => `(tactic| (first | ((with_reducible apply Wp.kdput1); (focus (rfl; done))) | fail))
local macro_rules | `(tactic| decreasing_trivial_pre_omega) => `(tactic| (first | ((with_reducible apply Wp.kdget); (focus (rfl; done)); (focus (rfl; done)); (focus (rfl; done)); (focus (assumption; done))) | fail))
local macro_rules | `(tactic| decreasing_trivial_pre_omega) => `(tactic| (first | ((with_reducible apply Wp.w_dget); (focus (rfl; done))) | fail))
local macro_rules | `(tactic| decreasing_trivial_pre_omega) => `(tactic| (first | ((with_reducible apply Wp.kmd2); (focus (rfl; done)); (focus (rfl; done))) | fail))
local macro_rules | `(tactic| decreasing_trivial_pre_omega) => `(tactic| (first | ((with_reducible apply Wp.kmput2); (focus (rfl; done)); (focus (rfl; done)); (focus (rfl; done)); (focus (rfl; done)); (focus (assumption; done))) | fail))
local macro_rules | `(tactic| decreasing_trivial_pre_omega) => `(tactic| (first | ((with_reducible apply Wp.kmput1); (focus (rfl; done))) | fail))
local macro_rules | `(tactic| decreasing_trivial_pre_omega) => `(tactic| (first | ((with_reducible apply Wp.kmin); (focus (rfl; done)); (focus (rfl; done)); (focus (rfl; done)); (focus (assumption; done))) | fail))
local macro_rules | `(tactic| decreasing_trivial_pre_omega) => `(tactic| (first | ((with_reducible apply Wp.kmget); (focus (rfl; done)); (focus (rfl; done)); (focus (rfl; done)); (focus (assumption; done))) | fail))
local macro_rules | `(tactic| decreasing_trivial_pre_omega) => `(tactic| (first | ((with_reducible apply Wp.w_mget); (focus (rfl; done))) | fail))
local macro_rules | `(tactic| decreasing_trivial_pre_omega) => `(tactic| (first | ((with_reducible apply Wp.ksl2_t); (focus (rfl; done))) | fail))
local macro_rules | `(tactic| decreasing_trivial_pre_omega) => `(tactic| (first | ((with_reducible apply Wp.ksl2_l); (focus (rfl; done))) | fail))
local macro_rules | `(tactic| decreasing_trivial_pre_omega) => `(tactic| (first | ((with_reducible apply Wp.kjs); (focus (assumption; done))) | fail))
local macro_rules | `(tactic| decreasing_trivial_pre_omega) => `(tactic| (first | ((with_reducible apply Wp.kfmt_i); (focus (rfl; done)); (focus (assumption; done))) | fail))
local macro_rules | `(tactic| decreasing_trivial_pre_omega) => `(tactic| (first | ((with_reducible apply Wp.kfmt_s); (focus (rfl; done)); (focus (assumption; done))) | fail))
local macro_rules | `(tactic| decreasing_trivial_pre_omega) => `(tactic| (first | ((with_reducible apply Wp.kjoin2); (focus (rfl; done)); (focus (assumption; done)); (focus (assumption; done))) | fail))
local macro_rules | `(tactic| decreasing_trivial_pre_omega) => `(tactic| (first | ((with_reducible apply Wp.kindex1_); (focus (rfl; done))) | fail))
local macro_rules | `(tactic| decreasing_trivial_pre_omega) => `(tactic| (first | ((with_reducible apply Wp.krev_t); (focus (rfl; done))) | fail))
local macro_rules | `(tactic| decreasing_trivial_pre_omega) => `(tactic| (first | ((with_reducible apply Wp.krev_l); (focus (rfl; done))) | fail))
local macro_rules | `(tactic| decreasing_trivial_pre_omega) => `(tactic| (first | ((with_reducible apply Wp.kof_t); (focus (rfl; done))) | fail))
local macro_rules | `(tactic| decreasing_trivial_pre_omega) => `(tactic| (first | ((with_reducible apply Wp.kof_l); (focus (rfl; done))) | fail))
local macro_rules | `(tactic| decreasing_trivial_pre_omega) => `(tactic| (first | ((with_reducible apply Wp.kpso); (focus (rfl; done))) | fail))
local macro_rules | `(tactic| decreasing_trivial_pre_omega) => `(tactic| (first | ((with_reducible apply Wp.kisi); (focus (rfl; done))) | fail))
local macro_rules | `(tactic| decreasing_trivial_pre_omega) => `(tactic| (first | ((with_reducible apply Wp.kneg); (focus (rfl; done))) | fail))
local macro_rules | `(tactic| decreasing_trivial_pre_omega) => `(tactic| (first | ((with_reducible apply Wp.ktb_s); (focus (rfl; done))) | fail))
local macro_rules | `(tactic| decreasing_trivial_pre_omega) => `(tactic| (first | ((with_reducible apply Wp.kore_f); (focus (rfl; done))) | fail))
local macro_rules | `(tactic| decreasing_trivial_pre_omega) => `(tactic| (first | ((with_reducible apply Wp.kore_t); (focus (rfl; done))) | fail))
local macro_rules | `(tactic| decreasing_trivial_pre_omega) => `(tactic| (first | ((with_reducible apply Wp.kande_f); (focus (rfl; done))) | fail))
local macro_rules | `(tactic| decreasing_trivial_pre_omega) => `(tactic| (first | ((with_reducible apply Wp.kande_t); (focus (rfl; done))) | fail))
local macro_rules | `(tactic| decreasing_trivial_pre_omega) => `(tactic| (first | ((with_reducible apply Wp.kor_f); (focus (rfl; done))) | fail))
local macro_rules | `(tactic| decreasing_trivial_pre_omega) => `(tactic| (first | ((with_reducible apply Wp.kor_t); (focus (rfl; done))) | fail))
local macro_rules | `(tactic| decreasing_trivial_pre_omega) => `(tactic| (first | ((with_reducible apply Wp.kand_f); (focus (rfl; done))) | fail))
local macro_rules | `(tactic| decreasing_trivial_pre_omega) => `(tactic| (first | ((with_reducible apply Wp.kand_t); (focus (rfl; done))) | fail))
local macro_rules | `(tactic| decreasing_trivial_pre_omega) => `(tactic| (first | ((with_reducible apply Wp.kife_f); (focus (rfl; done))) | fail))
local macro_rules | `(tactic| decreasing_trivial_pre_omega) => `(tactic| (first | ((with_reducible apply Wp.kife_t); (focus (rfl; done))) | fail))
local macro_rules | `(tactic| decreasing_trivial_pre_omega) => `(tactic| (first | ((with_reducible apply Wp.kif_f); (focus (assumption; done))) | fail))
local macro_rules | `(tactic| decreasing_trivial_pre_omega) => `(tactic| (first | ((with_reducible apply Wp.kif_t); (focus (assumption; done))) | fail))
local macro_rules | `(tactic| decreasing_trivial_pre_omega) => `(tactic| (first | ((with_reducible apply Wp.kif_f); (focus (rfl; done))) | fail))
local macro_rules | `(tactic| decreasing_trivial_pre_omega) => `(tactic| (first | ((with_reducible apply Wp.kif_t); (focus (rfl; done))) | fail))
local macro_rules | `(tactic| decreasing_trivial_pre_omega) => `(tactic| (first | ((with_reducible apply Wp.kmut2); (focus (rfl; done)); (focus (rfl; done)); (focus ((first | with_reducible assumption | with_reducible exact Wp.gEq_e _ _ | with_reducible exact Wp.gEq_n _ _ | with_reducible exact Wp.gEq_i _ _ _ | exact Wp.gAppend_ok (by assumption) | exact Wp.gIx_l (by assumption) | exact Wp.gIx_t (by assumption) | exact Wp.gStr_ok (by assumption) | exact Ev.gLenS_ok (by assumption) | exact Wp.gAdd_ss (by assumption) | exact Ev.gMulX_ok (by assumption) | exact Wp.gAdd_tt (by assumption) | exact Wp.gAdd_ll (by assumption) | exact Wp.gMul_ok (by assumption) | exact Wp.gMod_ok (by assumption) | exact Wp.gDiv_ok (by assumption) (by assumption) | rfl | assumption | exact Ev.gPowW_ok (by assumption)); done))) | fail))
local macro_rules | `(tactic| decreasing_trivial_pre_omega) => `(tactic| (first | ((with_reducible apply Wp.w_mut); (focus (rfl; done))) | fail))
local macro_rules | `(tactic| decreasing_trivial_pre_omega) => `(tactic| (first | ((with_reducible apply Wp.kcallk); (focus (decide; done)); (focus (exact ⟨rfl, rfl⟩; done)); (focus (rfl; done)); (focus (exact of_decide_eq_true rfl; done))) | fail))
local macro_rules | `(tactic| decreasing_trivial_pre_omega) => `(tactic| (first | ((with_reducible apply Wp.kcall); (focus (rfl; done)); (focus (rfl; done)); (focus (exact of_decide_eq_true rfl; done))) | fail))
local macro_rules | `(tactic| decreasing_trivial_pre_omega) => `(tactic| (first | ((with_reducible apply Wp.kdisp_l); (focus (rfl; done)); (focus (rfl; done))) | fail))
local macro_rules | `(tactic| decreasing_trivial_pre_omega) => `(tactic| (first | ((with_reducible apply Wp.kdisp_t); (focus (rfl; done)); (focus (rfl; done))) | fail))
local macro_rules | `(tactic| decreasing_trivial_pre_omega) => `(tactic| (first | ((with_reducible apply Wp.kfng); (focus (rfl; done)); (focus ((first | with_reducible assumption | with_reducible exact Wp.gEq_e _ _ | with_reducible exact Wp.gEq_n _ _ | with_reducible exact Wp.gEq_i _ _ _ | exact Wp.gAppend_ok (by assumption) | exact Wp.gIx_l (by assumption) | exact Wp.gIx_t (by assumption) | exact Wp.gStr_ok (by assumption) | exact Ev.gLenS_ok (by assumption) | exact Wp.gAdd_ss (by assumption) | exact Ev.gMulX_ok (by assumption) | exact Wp.gAdd_tt (by assumption) | exact Wp.gAdd_ll (by assumption) | exact Wp.gMul_ok (by assumption) | exact Wp.gMod_ok (by assumption) | exact Wp.gDiv_ok (by assumption) (by assumption) | rfl | assumption | exact Ev.gPowW_ok (by assumption)); done))) | fail))
local macro_rules | `(tactic| decreasing_trivial_pre_omega) => `(tactic| (first | ((with_reducible apply Wp.ktwo2); (focus (rfl; done)); (focus (rfl; done)); (focus ((first | with_reducible assumption | with_reducible exact Wp.gEq_e _ _ | with_reducible exact Wp.gEq_n _ _ | with_reducible exact Wp.gEq_i _ _ _ | exact Wp.gAppend_ok (by assumption) | exact Wp.gIx_l (by assumption) | exact Wp.gIx_t (by assumption) | exact Wp.gStr_ok (by assumption) | exact Ev.gLenS_ok (by assumption) | exact Wp.gAdd_ss (by assumption) | exact Ev.gMulX_ok (by assumption) | exact Wp.gAdd_tt (by assumption) | exact Wp.gAdd_ll (by assumption) | exact Wp.gMul_ok (by assumption) | exact Wp.gMod_ok (by assumption) | exact Wp.gDiv_ok (by assumption) (by assumption) | rfl | assumption | exact Ev.gPowW_ok (by assumption)); done))) | fail))
local macro_rules | `(tactic| decreasing_trivial_pre_omega) => `(tactic| (first | ((with_reducible apply Wp.kpar); (focus (rfl; done)); (focus ((repeat (first | refine Wp.setOs_nil rfl | (apply Wp.setOs_r; (focus exact (by first | rfl | exact Wp.isLent_of rfl (by assumption)))) | (apply Wp.setOs_b; (focus exact (by first | rfl | exact Wp.isLent_of rfl (by assumption)))))); done))) | fail))
local macro_rules | `(tactic| decreasing_trivial_pre_omega) => `(tactic| (first | ((with_reducible apply Wp.kasg); (focus (rfl; done)); (focus ((first | rfl | (repeat' (first | refine Wp.gN_ok (by first | rfl | exact Wp.isLent_of rfl (by assumption)) rfl | refine Wp.gsNil_ok rfl | with_reducible apply Wp.gsCons_ok | apply Wp.gT_ok rfl))); done))) | fail))
local macro_rules | `(tactic| decreasing_trivial_pre_omega) => `(tactic| (first | ((with_reducible apply Wp.kret_so); (focus (rfl; done))) | fail))
local macro_rules | `(tactic| decreasing_trivial_pre_omega) => `(tactic| (first | ((with_reducible apply Wp.kset_s); (focus (exact (by first | rfl | exact Wp.isLent_of rfl (by assumption)); done)); (focus (rfl; done))) | fail))
local macro_rules | `(tactic| decreasing_trivial_pre_omega) => `(tactic| (first | ((with_reducible apply Wp.kset_b); (focus (exact (by first | rfl | exact Wp.isLent_of rfl (by assumption)); done))) | fail))
local macro_rules | `(tactic| decreasing_trivial_pre_omega) => `(tactic| (first | ((with_reducible apply Wp.kset_r); (focus (exact (by first | rfl | exact Wp.isLent_of rfl (by assumption)); done))) | fail))
local macro_rules | `(tactic| decreasing_trivial_pre_omega) => `(tactic| (first | ((with_reducible apply Wp.w_var_f); (focus (rfl; done))) | fail))
local macro_rules | `(tactic| decreasing_trivial_pre_omega) => `(tactic| (first | ((with_reducible apply Wp.w_var_o); (focus (rfl; done))) | fail))
local macro_rules | `(tactic| decreasing_trivial_pre_omega) => `(tactic| (first | ((with_reducible apply Wp.w_var_v); (focus (rfl; done))) | fail))
local macro_rules | `(tactic| decreasing_trivial_pre_omega) => `(tactic| (first | ((with_reducible apply Wp.kback_b_n); (focus (((try simp only [Ev.wb, Ev.bk, List.set_cons_zero, List.set_cons_succ, List.getElem?_cons_zero, List.getElem?_cons_succ, List.cons_append, List.nil_append, List.append_nil]); rfl); done))) | fail))
local macro_rules | `(tactic| decreasing_trivial_pre_omega) => `(tactic| (first | ((with_reducible apply Wp.kback_r_n); (focus (((try simp only [Ev.wb, Ev.bk, List.set_cons_zero, List.set_cons_succ, List.getElem?_cons_zero, List.getElem?_cons_succ, List.cons_append, List.nil_append, List.append_nil]); rfl); done))) | fail))
local macro_rules | `(tactic| decreasing_trivial_pre_omega) => `(tactic| (first | ((with_reducible apply Wp.kseq_nx_n); (focus (((try simp only [Ev.wb, Ev.bk, List.set_cons_zero, List.set_cons_succ, List.getElem?_cons_zero, List.getElem?_cons_succ, List.cons_append, List.nil_append, List.append_nil]); rfl); done))) | fail))
local macro_rules | `(tactic| decreasing_trivial_pre_omega) => `(tactic| (first | with_reducible apply Wp.krepl1 | fail))
local macro_rules | `(tactic| decreasing_trivial_pre_omega) => `(tactic| (first | with_reducible apply Wp.w_repl | fail))
local macro_rules | `(tactic| decreasing_trivial_pre_omega) => `(tactic| (first | with_reducible apply Wp.kitx | fail))
local macro_rules | `(tactic| decreasing_trivial_pre_omega) => `(tactic| (first | with_reducible apply Wp.w_itx | fail))
local macro_rules | `(tactic| decreasing_trivial_pre_omega) => `(tactic| (first | with_reducible apply Wp.ksls2 | fail))
local macro_rules | `(tactic| decreasing_trivial_pre_omega) => `(tactic| (first | with_reducible apply Wp.ksls1 | fail))
local macro_rules | `(tactic| decreasing_trivial_pre_omega) => `(tactic| (first | with_reducible apply Wp.ksm1 | fail))
local macro_rules | `(tactic| decreasing_trivial_pre_omega) => `(tactic| (first | with_reducible apply Wp.w_slS | fail))
local macro_rules | `(tactic| decreasing_trivial_pre_omega) => `(tactic| (first | with_reducible apply Wp.w_sm0 | fail))
local macro_rules | `(tactic| decreasing_trivial_pre_omega) => `(tactic| (first | with_reducible apply Wp.w_sm1 | fail))
local macro_rules | `(tactic| decreasing_trivial_pre_omega) => `(tactic| (first | with_reducible apply Wp.kturn_bk | fail))
local macro_rules | `(tactic| decreasing_trivial_pre_omega) => `(tactic| (first | with_reducible apply Wp.kturn_rt | fail))
local macro_rules | `(tactic| decreasing_trivial_pre_omega) => `(tactic| (first | with_reducible apply Wp.kturn_ct | fail))
local macro_rules | `(tactic| decreasing_trivial_pre_omega) => `(tactic| (first | with_reducible apply Wp.kturn_nx | fail))
local macro_rules | `(tactic| decreasing_trivial_pre_omega) => `(tactic| (first | with_reducible apply Wp.kfun_nx | fail))
local macro_rules | `(tactic| decreasing_trivial_pre_omega) => `(tactic| (first | with_reducible apply Wp.kfun_rt | fail))
local macro_rules | `(tactic| decreasing_trivial_pre_omega) => `(tactic| (first | with_reducible apply Wp.ktb | fail))
local macro_rules | `(tactic| decreasing_trivial_pre_omega) => `(tactic| (first | with_reducible apply Wp.kret_b | fail))
local macro_rules | `(tactic| decreasing_trivial_pre_omega) => `(tactic| (first | with_reducible apply Wp.kret_r | fail))
local macro_rules | `(tactic| decreasing_trivial_pre_omega) => `(tactic| (first | with_reducible apply Wp.kseq_ct | fail))
local macro_rules | `(tactic| decreasing_trivial_pre_omega) => `(tactic| (first | with_reducible apply Wp.kseq_bk | fail))
local macro_rules | `(tactic| decreasing_trivial_pre_omega) => `(tactic| (first | with_reducible apply Wp.kseq_rt | fail))
local macro_rules | `(tactic| decreasing_trivial_pre_omega) => `(tactic| (first | with_reducible apply Wp.kcons1 | fail))
local macro_rules | `(tactic| decreasing_trivial_pre_omega) => `(tactic| (first | with_reducible apply Wp.ktwo1 | fail))
local macro_rules | `(tactic| decreasing_trivial_pre_omega) => `(tactic| (first | with_reducible apply Wp.ksl1 | fail))
local macro_rules | `(tactic| decreasing_trivial_pre_omega) => `(tactic| (first | with_reducible apply Wp.ksl_ | fail))
local macro_rules | `(tactic| decreasing_trivial_pre_omega) => `(tactic| (first | with_reducible apply Wp.kmd1 | fail))
local macro_rules | `(tactic| decreasing_trivial_pre_omega) => `(tactic| (first | with_reducible apply Wp.w_dput | fail))
local macro_rules | `(tactic| decreasing_trivial_pre_omega) => `(tactic| (first | with_reducible apply Wp.w_mput | fail))
local macro_rules | `(tactic| decreasing_trivial_pre_omega) => `(tactic| (first | with_reducible apply Wp.w_min | fail))
local macro_rules | `(tactic| decreasing_trivial_pre_omega) => `(tactic| (first | with_reducible apply Wp.w_mnew | fail))
local macro_rules | `(tactic| decreasing_trivial_pre_omega) => `(tactic| (first | with_reducible apply Wp.w_mdict1 | fail))
local macro_rules | `(tactic| decreasing_trivial_pre_omega) => `(tactic| (first | with_reducible apply Wp.krep1 | fail))
local macro_rules | `(tactic| decreasing_trivial_pre_omega) => `(tactic| (first | with_reducible apply Wp.w_rep | fail))
local macro_rules | `(tactic| decreasing_trivial_pre_omega) => `(tactic| (first | with_reducible apply Wp.w_true | fail))
local macro_rules | `(tactic| decreasing_trivial_pre_omega) => `(tactic| (first | with_reducible apply Wp.w_pno | fail))
local macro_rules | `(tactic| decreasing_trivial_pre_omega) => `(tactic| (first | with_reducible apply Wp.w_anil | fail))
local macro_rules | `(tactic| decreasing_trivial_pre_omega) => `(tactic| (first | with_reducible apply Wp.w_k | fail))
local macro_rules | `(tactic| decreasing_trivial_pre_omega) => `(tactic| (first | with_reducible apply Wp.w_retN | fail))
local macro_rules | `(tactic| decreasing_trivial_pre_omega) => `(tactic| (first | with_reducible apply Wp.w_cnt | fail))
local macro_rules | `(tactic| decreasing_trivial_pre_omega) => `(tactic| (first | with_reducible apply Wp.w_brk | fail))
local macro_rules | `(tactic| decreasing_trivial_pre_omega) => `(tactic| (first | with_reducible apply Wp.w_nil | fail))
local macro_rules | `(tactic| decreasing_trivial_pre_omega) => `(tactic| (first | with_reducible apply Wp.w_r2w | fail))
local macro_rules | `(tactic| decreasing_trivial_pre_omega) => `(tactic| (first | with_reducible apply Wp.putS_nil | fail))
local macro_rules | `(tactic| decreasing_trivial_pre_omega) => `(tactic| (first | with_reducible apply Wp.w_putS | fail))
local macro_rules | `(tactic| decreasing_trivial_pre_omega) => `(tactic| (first | with_reducible apply Wp.w_dictp | fail))
local macro_rules | `(tactic| decreasing_trivial_pre_omega) => `(tactic| (first | with_reducible apply Wp.w_js | fail))
local macro_rules | `(tactic| decreasing_trivial_pre_omega) => `(tactic| (first | with_reducible apply Wp.w_js_nil | fail))
local macro_rules | `(tactic| decreasing_trivial_pre_omega) => `(tactic| (first | with_reducible apply Wp.w_fmt | fail))
local macro_rules | `(tactic| decreasing_trivial_pre_omega) => `(tactic| (first | with_reducible apply Wp.kjoin1 | fail))
local macro_rules | `(tactic| decreasing_trivial_pre_omega) => `(tactic| (first | with_reducible apply Wp.w_join | fail))
local macro_rules | `(tactic| decreasing_trivial_pre_omega) => `(tactic| (first | with_reducible apply Wp.w_setix | fail))
local macro_rules | `(tactic| decreasing_trivial_pre_omega) => `(tactic| (first | with_reducible apply Wp.w_ienu | fail))
local macro_rules | `(tactic| decreasing_trivial_pre_omega) => `(tactic| (first | with_reducible apply Wp.w_izip2 | fail))
local macro_rules | `(tactic| decreasing_trivial_pre_omega) => `(tactic| (first | with_reducible apply Wp.w_izip | fail))
local macro_rules | `(tactic| decreasing_trivial_pre_omega) => `(tactic| (first | with_reducible apply Wp.w_compG | fail))
local macro_rules | `(tactic| decreasing_trivial_pre_omega) => `(tactic| (first | with_reducible apply Wp.w_comp | fail))
local macro_rules | `(tactic| decreasing_trivial_pre_omega) => `(tactic| (first | with_reducible apply Wp.w_r2 | fail))
local macro_rules | `(tactic| decreasing_trivial_pre_omega) => `(tactic| (first | with_reducible apply Wp.w_r1 | fail))
local macro_rules | `(tactic| decreasing_trivial_pre_omega) => `(tactic| (first | with_reducible apply Wp.w_iof | fail))
local macro_rules | `(tactic| decreasing_trivial_pre_omega) => `(tactic| (first | with_reducible apply Wp.w_for | fail))
local macro_rules | `(tactic| decreasing_trivial_pre_omega) => `(tactic| (first | with_reducible apply Wp.w_index | fail))
local macro_rules | `(tactic| decreasing_trivial_pre_omega) => `(tactic| (first | with_reducible apply Wp.w_rev | fail))
local macro_rules | `(tactic| decreasing_trivial_pre_omega) => `(tactic| (first | with_reducible apply Wp.w_pso | fail))
local macro_rules | `(tactic| decreasing_trivial_pre_omega) => `(tactic| (first | with_reducible apply Wp.w_sl | fail))
local macro_rules | `(tactic| decreasing_trivial_pre_omega) => `(tactic| (first | with_reducible apply Wp.w_isi | fail))
local macro_rules | `(tactic| decreasing_trivial_pre_omega) => `(tactic| (first | with_reducible apply Wp.w_neg | fail))
local macro_rules | `(tactic| decreasing_trivial_pre_omega) => `(tactic| (first | with_reducible apply Wp.w_tor | fail))
local macro_rules | `(tactic| decreasing_trivial_pre_omega) => `(tactic| (first | with_reducible apply Wp.w_tand | fail))
local macro_rules | `(tactic| decreasing_trivial_pre_omega) => `(tactic| (first | with_reducible apply Wp.w_tnot | fail))
local macro_rules | `(tactic| decreasing_trivial_pre_omega) => `(tactic| (first | with_reducible apply Wp.w_tb | fail))
local macro_rules | `(tactic| decreasing_trivial_pre_omega) => `(tactic| (first | with_reducible apply Wp.w_eif | fail))
local macro_rules | `(tactic| decreasing_trivial_pre_omega) => `(tactic| (first | with_reducible apply Wp.w_enot | fail))
local macro_rules | `(tactic| decreasing_trivial_pre_omega) => `(tactic| (first | with_reducible apply Wp.w_eor | fail))
local macro_rules | `(tactic| decreasing_trivial_pre_omega) => `(tactic| (first | with_reducible apply Wp.w_eand | fail))
local macro_rules | `(tactic| decreasing_trivial_pre_omega) => `(tactic| (first | with_reducible apply Wp.w_callk | fail))
local macro_rules | `(tactic| decreasing_trivial_pre_omega) => `(tactic| (first | with_reducible apply Wp.w_call | fail))
local macro_rules | `(tactic| decreasing_trivial_pre_omega) => `(tactic| (first | with_reducible apply Wp.w_lst | fail))
local macro_rules | `(tactic| decreasing_trivial_pre_omega) => `(tactic| (first | with_reducible apply Wp.w_tup | fail))
local macro_rules | `(tactic| decreasing_trivial_pre_omega) => `(tactic| (first | with_reducible apply Wp.w_fng | fail))
local macro_rules | `(tactic| decreasing_trivial_pre_omega) => `(tactic| (first | with_reducible apply Wp.w_acons | fail))
local macro_rules | `(tactic| decreasing_trivial_pre_omega) => `(tactic| (first | with_reducible apply Wp.w_op2 | fail))
local macro_rules | `(tactic| decreasing_trivial_pre_omega) => `(tactic| (first | with_reducible apply Wp.w_par | fail))
local macro_rules | `(tactic| decreasing_trivial_pre_omega) => `(tactic| (first | with_reducible apply Wp.w_asg | fail))
local macro_rules | `(tactic| decreasing_trivial_pre_omega) => `(tactic| (first | with_reducible apply Wp.w_ret | fail))
local macro_rules | `(tactic| decreasing_trivial_pre_omega) => `(tactic| (first | with_reducible apply Wp.w_set | fail))
local macro_rules | `(tactic| decreasing_trivial_pre_omega) => `(tactic| (first | with_reducible apply Wp.w_if | fail))
local macro_rules | `(tactic| decreasing_trivial_pre_omega) => `(tactic| (first | with_reducible apply Wp.w_drop | fail))
local macro_rules | `(tactic| decreasing_trivial_pre_omega) => `(tactic| (first | with_reducible apply Wp.w_seq | fail))
theorem mulOk_of {i j : Int} (a b : Nat) (h1 : i.natAbs.log2 < a) (h2 : j.natAbs.log2 < b) (h : a + b ≤ 1000000) : mulOk i j = true := by
  unfold mulOk
  exact decide_eq_true (by omega)
theorem toNat_lt {x : Int} {n : Nat} (h : 0 < n) : (x % (n : Int)).toNat < n ∧ ((x % (n : Int)).toNat : Int) = x % (n : Int) := by
  have h1 := Int.emod_nonneg x (show (n : Int) ≠ 0 by omega)
  have h2 := Int.emod_lt_of_pos x (show (0 : Int) < n by omega)
  omega
theorem log2_le_bits {i : Int} : i.natAbs.log2 ≤ Builtin.Int.intBits i := by
  unfold Builtin.Int.intBits
  split
  · rename_i h
    simp at h
    subst h
    decide
  · omega
structure Dk where
  a : Int
  m : Int
  c : Nat
  h : 0 ≤ m ∧ m < 2 ^ 100
def dkT (D : Dk) : List T := [.int D.a, .int D.m, .int (D.c : Int)]
def scT (ns : List Int) : T := .list (ns.map PyData.int)
theorem ix_sc (ns : List Int) (k : Nat) (h : k < ns.length) : gIx (scT ns) (nT k) = some (.r (.int ns[k])) :=
  gIx_l (by rw [List.getElem?_map, List.getElem?_eq_getElem h]; rfl)
theorem well_end (ns : List Int) (k : Nat) (hk : k < 1000) (x : Int) (hx : x.natAbs.log2 < 90000000) (Q : Od → En → Prop) (q : ∀ D : Dk, D.c = 0 → Q (.b (.l (dkT D))) [.v (scT ns), .v (nT k)]) :
    W ((sRet (eLst (aCons (eFn gMax2 (aCons (eK (.int 0)) (aCons (eOp2 gSub (eFn gAbs (aCons (eVar 2) aNil)) (eOp2 gPow (eK (.int 10)) (eK (.int 18)))) aNil))) (aCons (eOp2 gMod (eFn gInt (aCons (eOp2 gAdd (eOp2 gAdd (eOp2 gMulX (eVar 2) (eK (.int 86028157))) (eOp2 gMulX (eVar 1) (eK (.int 179424691)))) (eK (.int 7919))) aNil)) (eOp2 gAdd (eOp2 gPow (eK (.int 10)) (eK (.int 25))) (eK (.int 13)))) (aCons (eK (.int 0)) aNil))))) [.v (scT ns), .v (nT k), .v (.int x)]) (KFun [.v (scT ns), .v (nT k)] Q) := by
  have c3 : (86028157 : Int).natAbs.log2 < 64 := by decide
  have c4 : (179424691 : Int).natAbs.log2 < 64 := by decide
  have ck : ((k : Int)).natAbs.log2 < 64 := log2_small (by omega) (by decide)
  have m4 : ((k : Int)).natAbs.log2 + (179424691 : Int).natAbs.log2 < 100000000 := by omega
  have m3 : x.natAbs.log2 + (86028157 : Int).natAbs.log2 < 100000000 := by omega
  repeat' decreasing_trivial_pre_omega
  have b1 : (0 : Int) ≤ (x * 86028157 + (k : Int) * 179424691 + 7919) % ((10 : Int) ^ Int.toNat 25 + 13) ∧ (x * 86028157 + (k : Int) * 179424691 + 7919) % ((10 : Int) ^ Int.toNat 25 + 13) < 2 ^ 100 := by
    have h1 := Int.emod_nonneg (x * 86028157 + (k : Int) * 179424691 + 7919) (show ((10 : Int) ^ Int.toNat 25 + 13) ≠ 0 by decide)
    have h2 := Int.emod_lt_of_pos (x * 86028157 + (k : Int) * 179424691 + 7919) (show 0 < ((10 : Int) ^ Int.toNat 25 + 13) by decide)
    exact ⟨h1, Int.lt_trans h2 (by decide)⟩
  exact q ⟨_, _, 0, b1⟩ rfl
theorem well_w (ns : List Int) (hb : ∀ k ∈ ns, Builtin.Int.intBits k ≤ 1048576) (hn : ns.length ≤ 63) (k : Nat) (hk : k < 1000) : W (m__law_well [.v (scT ns), .v (nT k)]) fun r e => ∃ D : Dk, D.c = 0 ∧ r = .b (.l (dkT D)) ∧ e = [.v (scT ns), .v (nT k)] := by
  have ck : ((k : Int)).natAbs.log2 < 64 := log2_small (by omega) (by decide)
  unfold m__law_well
  (apply Wp.w_fun; (focus (rfl; done)); (focus (((try simp only [List.cons_append, List.nil_append, List.length_cons, List.length_nil, Nat.reduceAdd, Nat.reduceSub, Nat.zero_add, Nat.sub_zero, List.replicate_succ, List.replicate_zero, List.append_nil]); rfl); done)))
  unfold b__law_well
  refine w_seq ?_
  refine w_set ?_
  refine w_imp (P := fun r e => ∃ x : Int, x.natAbs.log2 < 90000000 ∧ r = .r (.int x) ∧ e = [.v (scT ns), .v (nT k), .un]) ?_ ?_
  · repeat' decreasing_trivial_pre_omega
    refine kife_d (fun h => ?_) fun h => ?_
    · rw [List.length_map] at h
      have hx := ix_sc ns k (by omega)
      have hbx := hb ns[k] (List.getElem_mem _)
      generalize ns[k] = x at hx hbx
      repeat' decreasing_trivial_pre_omega
      exact ⟨x, by have := log2_le_bits (i := x); omega, rfl, rfl⟩
    · have cl : (((ns.map PyData.int).length : Nat) : Int).natAbs.log2 < 64 := log2_small (by rw [List.length_map]; omega) (by decide)
      have c1 : (104723 : Int).natAbs.log2 < 64 := by decide
      have c2 : (15485863 : Int).natAbs.log2 < 64 := by decide
      have m1 : ((k : Int)).natAbs.log2 + (104723 : Int).natAbs.log2 < 100000000 := by omega
      have m2 : (((ns.map PyData.int).length : Nat) : Int).natAbs.log2 + (15485863 : Int).natAbs.log2 < 100000000 := by omega
      repeat' decreasing_trivial_pre_omega
      refine ⟨_, ?_, rfl, rfl⟩
      have : ((k : Int) * 104723 + ((ns.map PyData.int).length : Int) * 15485863).natAbs.log2 < 100 := log2_small (by rw [List.length_map]; omega) (by decide)
      omega
  · rintro _ _ ⟨x, hx, rfl, rfl⟩
    refine kset_r rfl (kseq_nx_n (e2 := [.v (scT ns), .v (nT k), .v (.int x)]) rfl ?_)
    refine well_end ns k hk x hx _ ?_
    exact fun D hD => ⟨D, hD, rfl, rfl⟩
theorem drw_w (D : Dk) (n : Nat) (h : 0 < n) (hn : n < 2 ^ 200) (hc : D.c < 10 ^ 9) :
    W (m__law_draw [.ow true (.l (dkT D)), .v (nT n)]) fun r e => ∃ (v : Nat) (D' : Dk), v < n ∧ D'.c ≤ D.c + 1 ∧ r = .r (nT v) ∧ e = [.ow true (.l (dkT D')), .v (nT n)] := by
  have hp : (0 : Int) < (n : Int) := by omega
  have hl : (n : Int).natAbs.log2 < 9000 := by
    have : (n : Int).natAbs.log2 < 200 := log2_small (by simpa using hn) (by decide)
    omega
  unfold m__law_draw
  (apply Wp.w_fun; (focus (rfl; done)); (focus (((try simp only [List.cons_append, List.nil_append, List.length_cons, List.length_nil, Nat.reduceAdd, Nat.reduceSub, Nat.zero_add, Nat.sub_zero, List.replicate_succ, List.replicate_zero, List.append_nil]); rfl); done)))
  unfold b__law_draw
  repeat' decreasing_trivial_pre_omega
  refine kif_d (fun ha => ?_) fun ha => ?_
  · repeat' decreasing_trivial_pre_omega
    obtain ⟨q1, q2⟩ := toNat_lt (x := D.a) h
    refine ⟨(D.a % (n : Int)).toNat, ⟨D.a / (n : Int), D.m, D.c, D.h⟩, q1, by simp, ?_, rfl⟩
    unfold nT
    rw [q2]
  · have m1 : mulOk 49979693 ((D.c : Int) + 1) = true := mulOk_of 64 64 (log2_small (by decide) (by decide)) (log2_small (by omega) (by decide)) (by decide)
    have hm := D.h
    have p1 : (0 : Int) ≤ 3 ∧ (3 : Int) ≤ 100 ∧ (D.m + 49979693 * ((D.c : Int) + 1)).natAbs.log2 < 1000000 := ⟨by decide, by decide, by
      have := log2_small (i := D.m + 49979693 * ((D.c : Int) + 1)) (k := 201) (by omega) (by decide)
      omega⟩
    repeat' decreasing_trivial_pre_omega
    have b1 : (0 : Int) ≤ (D.m + 49979693 * ((D.c : Int) + 1)) ^ Int.toNat 3 % ((10 : Int) ^ Int.toNat 29 + 319) ∧ (D.m + 49979693 * ((D.c : Int) + 1)) ^ Int.toNat 3 % ((10 : Int) ^ Int.toNat 29 + 319) < 2 ^ 100 := ⟨Int.emod_nonneg _ (by decide), Int.lt_trans (Int.emod_lt_of_pos _ (by decide)) (by decide)⟩
    generalize (D.m + 49979693 * ((D.c : Int) + 1)) ^ Int.toNat 3 % ((10 : Int) ^ Int.toNat 29 + 319) = x at b1
    have p2 : (0 : Int) ≤ 3 ∧ (3 : Int) ≤ 100 ∧ (x + 2038074751).natAbs.log2 < 1000000 := ⟨by decide, by decide, by
      have := log2_small (i := x + 2038074751) (k := 101) (by omega) (by decide)
      omega⟩
    have d6 : (0 : Int) < (10 : Int) ^ Int.toNat 6 := by decide
    have l6 : ((10 : Int) ^ Int.toNat 6).natAbs.log2 < 9000 := by decide
    repeat' decreasing_trivial_pre_omega
    obtain ⟨q1, q2⟩ := toNat_lt (x := (x + 2038074751) ^ Int.toNat 3 % ((10 : Int) ^ Int.toNat 33 + 33) / (10 : Int) ^ Int.toNat 6) h
    refine ⟨_, ⟨D.a, D.m, D.c + 1, D.h⟩, q1, Nat.le_refl _, ?_, rfl⟩
    unfold nT
    rw [q2]
theorem power_w (b : Nat) (h1 : b ≤ 16) (d : Nat) (hd : d ≤ 200) : m__law_power [.v (nT b), .v (nT d)] = .ok (.r (nT (b ^ d))) [.v (nT b), .v (nT d)] := by
  refine w_eq ?_
  unfold m__law_power
  (apply Wp.w_fun; (focus (rfl; done)); (focus (((try simp only [List.cons_append, List.nil_append, List.length_cons, List.length_nil, Nat.reduceAdd, Nat.reduceSub, Nat.zero_add, Nat.sub_zero, List.replicate_succ, List.replicate_zero, List.append_nil]); rfl); done)))
  unfold b__law_power l1__law_power
  repeat' decreasing_trivial_pre_omega
  refine kr1 (n := d) rfl (by omega) (for_below (fun k e => ∃ l3, lentS l3 = false ∧ e = [.v (nT b), .v (nT d), .v (nT (b ^ k)), l3]) ⟨.un, rfl, rfl⟩ ?_ ?_)
  · rintro k hk e ⟨l3, a3, rfl⟩
    refine ⟨_, gN_ok (by first | rfl | exact Wp.isLent_of rfl (by assumption)) rfl, ?_⟩
    unfold y1__law_power
    have m1 : mulOk ((b ^ k : Nat) : Int) (b : Int) = true := mulOk_of 801 64 (by
      have := pow_small (b := (b : Int)) (by omega) (by omega) k (by omega)
      rw [show ((b ^ k : Nat) : Int) = (b : Int) ^ k by simp]
      exact this) (log2_small (by omega) (by decide)) (by decide)
    repeat' decreasing_trivial_pre_omega
    refine ⟨.v (nT k), rfl, ?_⟩
    unfold nT
    rw [Nat.pow_succ]
    simp
  · rintro e ⟨l3, a3, rfl⟩
    repeat' decreasing_trivial_pre_omega
    exact ⟨rfl, rfl⟩
theorem erase_map {α β : Type} (f : α → β) : ∀ (xs : List α) (k : Nat), (xs.map f).eraseIdx k = (xs.eraseIdx k).map f
  | [], k => by simp
  | x :: xs, 0 => rfl
  | x :: xs, k + 1 => by
    rw [List.map_cons, List.eraseIdx_cons_succ, List.eraseIdx_cons_succ, List.map_cons, erase_map f xs k]
set_option linter.all false
set_option maxRecDepth 100000
set_option maxHeartbeats 4000000
open PySem PySem.Spec Ev Pu Mt Wp
theorem pow_le {d : Nat} (hd : d ≤ 40) : 10 ^ d ≤ 10 ^ 40 := Nat.pow_le_pow_right (by decide) hd
theorem power10 (d : Nat) (hd : d ≤ 200) : m__law_power [.v (.int 10), .v (nT d)] = .ok (.r (nT (10 ^ d))) [.v (.int 10), .v (nT d)] := by
  have := power_w 10 (by decide) d hd
  generalize 10 ^ d = z at this ⊢
  rw [show PyData.int 10 = nT 10 from rfl]
  exact this
theorem integer_w (D : Dk) (d Z : Nat) (hZ : 10 ^ d = Z) (h0 : 0 < d) (h1 : d ≤ 40) (hc : D.c + 3 ≤ 10 ^ 9) :
    W (m__law_integer [.ow true (.l (dkT D)), .v (nT d)]) fun r e => ∃ (D' : Dk) (v : Nat), D'.c ≤ D.c + 3 ∧ (v < Z ∨ v < 60) ∧ r = .r (nT v) ∧ e = [.ow true (.l (dkT D')), .v (nT d)] := by
  unfold m__law_integer
  (apply Wp.w_fun; (focus (rfl; done)); (focus (((try simp only [List.cons_append, List.nil_append, List.length_cons, List.length_nil, Nat.reduceAdd, Nat.reduceSub, Nat.zero_add, Nat.sub_zero, List.replicate_succ, List.replicate_zero, List.append_nil]); rfl); done)))
  unfold b__law_integer
  repeat' decreasing_trivial_pre_omega
  refine w_imp (drw_w D 5 (by decide) (by decide) (by omega)) ?_
  rintro _ _ ⟨k, D1, hk, hc1, rfl, rfl⟩
  repeat' decreasing_trivial_pre_omega
  refine kif_d (fun hw => ?_) fun hw => ?_
  · obtain ⟨n, hx, hn⟩ : ∃ n : Nat, [PyData.int 3, PyData.int 10, PyData.int 60][k]? = some (nT n) ∧ 0 < n ∧ n ≤ 60 := by
      match k, hw with
      | 0, _ => exact ⟨3, rfl, by decide, by decide⟩
      | 1, _ => exact ⟨10, rfl, by decide, by decide⟩
      | 2, _ => exact ⟨60, rfl, by decide, by decide⟩
      | k + 3, hw => omega
    repeat' decreasing_trivial_pre_omega
    refine w_imp (drw_w D1 n hn.1 (by omega) (by omega)) ?_
    rintro _ _ ⟨v, D2, hv, hc2, rfl, rfl⟩
    repeat' decreasing_trivial_pre_omega
    exact ⟨D2, v, by omega, .inr (by omega), rfl, rfl⟩
  · repeat' decreasing_trivial_pre_omega
    have hp : ∃ M : Nat, M = 10 ^ 40 ∧ Z ≤ M := ⟨_, rfl, by rw [← hZ]; exact pow_le h1⟩
    have hp1 : 10 ≤ Z := by rw [← hZ]; exact Nat.pow_le_pow_right (show 0 < 10 by decide) h0
    have p10 := power10 d (by omega)
    rw [hZ] at p10
    have hle : ∀ w, w < d → 10 ^ (1 + w) ≤ Z := fun w hw => by rw [← hZ]; exact Nat.pow_le_pow_right (show 0 < 10 by decide) (by omega)
    clear hZ
    refine kif_d (fun hw2 => ?_) fun hw2 => ?_
    · repeat' decreasing_trivial_pre_omega
      clear hle
      refine w_of p10 ?_
      clear p10
      repeat' decreasing_trivial_pre_omega
      refine w_imp (drw_w D1 9 (by decide) (by decide) (by omega)) ?_
      rintro _ _ ⟨v, D2, hv, hc2, rfl, rfl⟩
      repeat' decreasing_trivial_pre_omega
      obtain ⟨M, rfl, hp⟩ := hp
      exact ⟨D2, Z - 1 - v, by omega, .inl (by omega), by
        show Od.r (PyData.int ((Z : Int) - 1 - (v : Int))) = _
        rw [show (Z : Int) - 1 - (v : Int) = ((Z - 1 - v : Nat) : Int) by omega], rfl⟩
    · clear p10
      repeat' decreasing_trivial_pre_omega
      refine w_imp (drw_w D1 d h0 (by omega) (by omega)) ?_
      rintro _ _ ⟨w, D2, hw3, hc2, rfl, rfl⟩
      have hq : 10 ^ (1 + w) ≤ Z := hle w hw3
      have hq1 : 10 ≤ 10 ^ (1 + w) := Nat.pow_le_pow_right (show 0 < 10 by decide) (show 1 ≤ 1 + w by omega)
      clear hle
      repeat' decreasing_trivial_pre_omega
      rw [show (1 : Int) + (w : Int) = ((1 + w : Nat) : Int) by simp]
      have q10 := power10 (1 + w) (by omega)
      generalize 10 ^ (1 + w) = z at hq hq1 q10
      refine w_of q10 ?_
      clear q10
      repeat' decreasing_trivial_pre_omega
      obtain ⟨M, rfl, hp⟩ := hp
      refine w_imp (drw_w D2 z (by omega) (by omega) (by omega)) ?_
      rintro _ _ ⟨v, D3, hv, hc3, rfl, rfl⟩
      repeat' decreasing_trivial_pre_omega
      exact ⟨D3, v, by omega, .inl (by omega), rfl, rfl⟩
theorem above_w (D : Dk) (low d Z : Nat) (hZ : 10 ^ d = Z) (h0 : 0 < d) (h1 : d ≤ 40) (hc : D.c + 5 ≤ 10 ^ 9) :
    W (m__law_above [.ow true (.l (dkT D)), .v (nT low), .v (nT d)]) fun r e => ∃ (D' : Dk) (v : Nat), D'.c ≤ D.c + 5 ∧ (low < v ∧ v ≤ low + Z + 60) ∧ r = .r (nT v) ∧ e = [.ow true (.l (dkT D')), .v (nT low), .v (nT d)] := by
  unfold m__law_above
  (apply Wp.w_fun; (focus (rfl; done)); (focus (((try simp only [List.cons_append, List.nil_append, List.length_cons, List.length_nil, Nat.reduceAdd, Nat.reduceSub, Nat.zero_add, Nat.sub_zero, List.replicate_succ, List.replicate_zero, List.append_nil]); rfl); done)))
  unfold b__law_above
  repeat' decreasing_trivial_pre_omega
  refine w_imp (drw_w D 9 (by decide) (by decide) (by omega)) ?_
  rintro _ _ ⟨v, D1, hv, hc1, rfl, rfl⟩
  repeat' decreasing_trivial_pre_omega
  refine w_imp (integer_w D1 d Z hZ h0 h1 (by omega)) ?_
  rintro _ _ ⟨D2, w, hc2, hw, rfl, rfl⟩
  clear hZ
  repeat' decreasing_trivial_pre_omega
  refine w_imp (drw_w D2 3 (by decide) (by decide) (by omega)) ?_
  rintro _ _ ⟨k, D3, hk, hc3, rfl, rfl⟩
  obtain ⟨n, hx, hn⟩ : ∃ n : Nat, [PyData.int 1, PyData.int (1 + (v : Int)), PyData.int (1 + (w : Int))][k]? = some (nT n) ∧ 0 < n ∧ n ≤ Z + 60 := by
    match k, hk with
    | 0, _ => exact ⟨1, rfl, by omega, by omega⟩
    | 1, _ => exact ⟨1 + v, by simp [nT], by omega, by omega⟩
    | 2, _ => exact ⟨1 + w, by simp [nT], by omega, by omega⟩
    | k + 3, hw => omega
  repeat' decreasing_trivial_pre_omega
  exact ⟨D3, low + n, by omega, by omega, by unfold nT; simp, rfl⟩
set_option linter.all false
set_option maxRecDepth 100000
set_option maxHeartbeats 4000000
open PySem PySem.Spec Ev Pu Mt Wp
def rowT (r : List Int) : T := .tuple (r.map PyData.int)
def rowsT (rs : List (List Int)) : T := .tuple (rs.map rowT)
structure OkR (r : List Int) : Prop where
  len : r.length ≤ 4
  rng : ∀ i ∈ r, 0 ≤ i ∧ i < 10 ^ 40
theorem okr3 {x y z : Int} (h1 : 0 ≤ x ∧ x < 10 ^ 40) (h2 : 0 ≤ y ∧ y < 10 ^ 40) (h3 : 0 ≤ z ∧ z < 10 ^ 40) : OkR [x, y, z] := ⟨by simp, fun i hi => by
  simp only [List.mem_cons, List.not_mem_nil, or_false] at hi
  rcases hi with rfl | rfl | rfl
  · exact h1
  · exact h2
  · exact h3⟩
theorem app_len (x y : Str) : (x ++ y).length = x.length + y.length := Array.size_append
theorem sjoin_len (sep : Str) : ∀ ys : List Str, (Str.join sep ys).length ≤ (ys.map (·.length)).sum + ys.length * sep.length
  | [] => Nat.zero_le _
  | [x] => by simp [Str.join]
  | x :: y :: ys => by
    have ih := sjoin_len sep (y :: ys)
    rw [Str.join, app_len, app_len]
    simp only [List.map_cons, List.sum_cons, List.length_cons, Nat.add_mul, Nat.one_mul] at ih ⊢
    omega
    · intro h; cases h
theorem join_len (sep : Str) (ys : List Str) : (Txt.join sep ys).length ≤ (ys.map (·.length)).sum + ys.length * sep.length := by
  rw [TL.join_eq]
  exact sjoin_len sep ys
theorem sum_le {B : Nat} : ∀ ys : List Str, (∀ y ∈ ys, y.length ≤ B) → (ys.map (·.length)).sum ≤ ys.length * B
  | [], _ => by simp
  | y :: ys, h => by
    have ih := sum_le ys fun z hz => h z (List.mem_cons_of_mem _ hz)
    have h1 := h y List.mem_cons_self
    simp only [List.map_cons, List.sum_cons, List.length_cons, Nat.add_mul, Nat.one_mul]
    omega
theorem strs_map (ys : List Str) : strsOf (ys.map PyData.str) = some ys := by
  induction ys with
  | nil => rfl
  | cons y ys ih => rw [List.map_cons, strsOf, ih]; rfl
theorem strs_map2 {α : Type} (f : α → Str) (xs : List α) : strsOf (xs.map fun x => PyData.str (f x)) = some (xs.map f) := by
  rw [show (xs.map fun x => PyData.str (f x)) = (xs.map f).map PyData.str by rw [List.map_map]; rfl]
  exact strs_map _
def numS (i : Int) : Str := (toString i : String)
theorem numS_len {i : Int} (h : 0 ≤ i ∧ i < 10 ^ 40) : (numS i).length ≤ 40 := PyProof.Rows.toString_length_le h.1 (by decide) h.2
def rowS (r : List Int) : Str := Txt.join " " (r.map numS)
def rowsS (rs : List (List Int)) : Str := Txt.join ", " (rs.map rowS)
theorem rowS_len {r : List Int} (h : OkR r) : (rowS r).length ≤ 300 := by
  have h1 := join_len " " (r.map numS)
  have h2 := sum_le (B := 60) (r.map numS) fun y hy => by
    obtain ⟨i, hi, rfl⟩ := List.mem_map.mp hy
    exact Nat.le_trans (numS_len (h.rng i hi)) (by omega)
  have h3 : (" " : Str).length = 1 := by decide +kernel
  have h4 := h.len
  rw [List.length_map] at h1 h2
  rw [h3] at h1
  unfold rowS
  omega
theorem rowsS_len {rs : List (List Int)} (hl : rs.length ≤ 30) (h : ∀ r ∈ rs, OkR r) : (rowsS rs).length ≤ 9100 := by
  have h1 := join_len ", " (rs.map rowS)
  have h2 := sum_le (B := 300) (rs.map rowS) fun y hy => by
    obtain ⟨i, hi, rfl⟩ := List.mem_map.mp hy
    exact rowS_len (h i hi)
  have h3 : (", " : Str).length = 2 := by decide +kernel
  rw [List.length_map] at h1 h2
  rw [h3] at h1
  unfold rowsS
  omega
theorem num_log {i : Int} (h : 0 ≤ i ∧ i < 10 ^ 40) : i.natAbs.log2 < 1920 := by
  have : i.natAbs.log2 < 200 := log2_small (by omega) (by decide)
  omega
theorem join_fit {sep : Str} {ys : List Str} {B : Nat} (h : ∀ y ∈ ys, y.length ≤ B) (h2 : ys.length * B + ys.length * sep.length ≤ 16777216) : (ys.map (·.length)).sum + ys.length * sep.length ≤ 16777216 := by
  have := sum_le ys h
  omega
theorem said_row {r : List Int} (h : OkR r) : m__law_said [.v (rowT r)] = .ok (.r (.str (rowS r))) [.v (rowT r)] := by
  refine w_eq ?_
  unfold m__law_said
  (apply Wp.w_fun; (focus (rfl; done)); (focus (((try simp only [List.cons_append, List.nil_append, List.length_cons, List.length_nil, Nat.reduceAdd, Nat.reduceSub, Nat.zero_add, Nat.sub_zero, List.replicate_succ, List.replicate_zero, List.append_nil]); rfl); done)))
  unfold b__law_said x1__law_said rowT
  have h4 := h.len
  repeat' decreasing_trivial_pre_omega
  refine comp_map_w PyData.int (fun i => .str (numS i)) r (by unfold sizeLine; omega) (fun i hi => ⟨_, rfl, ?_⟩) ?_
  · have hl := num_log (h.rng i hi)
    repeat' decreasing_trivial_pre_omega
    exact ⟨rfl, rfl⟩
  · have q2 := strs_map2 numS r
    have q3 : ((r.map numS).map (·.length)).sum + (r.map numS).length * (" " : Str).length ≤ 16777216 := join_fit (B := 60) (fun y hy => by
      obtain ⟨i, hi, rfl⟩ := List.mem_map.mp hy
      exact Nat.le_trans (numS_len (h.rng i hi)) (by omega)) (by
      have h3 : (" " : Str).length = 1 := by decide +kernel
      rw [h3, List.length_map]; omega)
    repeat' decreasing_trivial_pre_omega
    exact ⟨rfl, rfl⟩
theorem said_rows {rs : List (List Int)} (hl : rs.length ≤ 30) (h : ∀ r ∈ rs, OkR r) : m__law_said_parts [.v (rowsT rs)] = .ok (.r (.str (rowsS rs))) [.v (rowsT rs)] := by
  refine w_eq ?_
  unfold m__law_said_parts
  (apply Wp.w_fun; (focus (rfl; done)); (focus (((try simp only [List.cons_append, List.nil_append, List.length_cons, List.length_nil, Nat.reduceAdd, Nat.reduceSub, Nat.zero_add, Nat.sub_zero, List.replicate_succ, List.replicate_zero, List.append_nil]); rfl); done)))
  unfold b__law_said_parts x1__law_said_parts rowsT
  repeat' decreasing_trivial_pre_omega
  refine comp_map_w rowT (fun i => .str (rowS i)) rs (by unfold sizeLine; omega) (fun i hi => ⟨_, rfl, ?_⟩) ?_
  · have hs := said_row (h i hi)
    repeat' decreasing_trivial_pre_omega
    refine w_of hs ?_
    repeat' decreasing_trivial_pre_omega
    exact ⟨rfl, rfl⟩
  · have q2 := strs_map2 rowS rs
    have q3 : ((rs.map rowS).map (·.length)).sum + (rs.map rowS).length * (", " : Str).length ≤ 16777216 := join_fit (B := 300) (fun y hy => by
      obtain ⟨i, hi, rfl⟩ := List.mem_map.mp hy
      exact rowS_len (h i hi)) (by
      have h3 : (", " : Str).length = 2 := by decide +kernel
      rw [h3, List.length_map]; omega)
    repeat' decreasing_trivial_pre_omega
    exact ⟨rfl, rfl⟩
structure OkP (p : Int × Int) : Prop where
  a : 0 ≤ p.1 ∧ p.1 < 10 ^ 40
  b : 0 ≤ p.2 ∧ p.2 < 10 ^ 40
def spanS (p : Int × Int) : Str := numS p.1 ++ ("-" : Str) ++ numS p.2
def spansS (ps : List (Int × Int)) : Str := Txt.join " " (ps.map spanS)
theorem dash_len : ("-" : Str).length = 1 := by decide +kernel
theorem spanS_len {p : Int × Int} (h : OkP p) : (spanS p).length ≤ 121 := by
  have h1 := numS_len h.a
  have h2 := numS_len h.b
  unfold spanS
  rw [app_len, app_len, dash_len]
  omega
theorem ok_of (s : String) : PyData.strOk (Str.ofString s) = true := by
  rw [Str.ofString_eq_toList]
  unfold PyData.strOk
  rw [Array.all_eq_true']
  intro n hn
  rw [List.mem_toArray] at hn
  obtain ⟨c, _, rfl⟩ := List.mem_map.mp hn
  refine decide_eq_true ?_
  have h := c.valid
  show c.val.toNat < 1114112
  rcases h with h | h
  · have : c.val.toNat < 55296 := h
    omega
  · exact h.2
theorem ok_app {x y : Str} (h1 : PyData.strOk x = true) (h2 : PyData.strOk y = true) : PyData.strOk (x ++ y) = true := by
  unfold PyData.strOk at h1 h2 ⊢
  show (x.cps ++ y.cps).all _ = true
  rw [Array.all_append, h1, h2]
  rfl
theorem ok_sjoin {sep : Str} (h : PyData.strOk sep = true) : ∀ ys : List Str, (∀ y ∈ ys, PyData.strOk y = true) → PyData.strOk (Str.join sep ys) = true
  | [], _ => by simp [Str.join, PyData.strOk, Str.empty]
  | [x], h2 => h2 x (by simp)
  | x :: y :: ys, h2 => by
    have ih := ok_sjoin h (y :: ys) fun z hz => h2 z (List.mem_cons_of_mem _ hz)
    rw [Str.join]
    · exact ok_app (ok_app (h2 x List.mem_cons_self) h) ih
    · intro z; cases z
theorem ok_join {sep : Str} (h : PyData.strOk sep = true) (ys : List Str) (h2 : ∀ y ∈ ys, PyData.strOk y = true) : PyData.strOk (Txt.join sep ys) = true := by
  rw [TL.join_eq]
  exact ok_sjoin h ys h2
theorem ok_num (i : Int) : PyData.strOk (numS i) = true := ok_of _
theorem ok_map {α : Type} {f : α → Str} (h : ∀ a, PyData.strOk (f a) = true) (xs : List α) : ∀ y ∈ xs.map f, PyData.strOk y = true := fun y hy => by
  obtain ⟨a, _, rfl⟩ := List.mem_map.mp hy
  exact h a
theorem ok_row (r : List Int) : PyData.strOk (rowS r) = true := ok_join (ok_of _) _ (ok_map ok_num r)
theorem ok_rows (rs : List (List Int)) : PyData.strOk (rowsS rs) = true := ok_join (ok_of _) _ (ok_map ok_row rs)
theorem ok_span (p : Int × Int) : PyData.strOk (spanS p) = true := ok_app (ok_app (ok_num _) (ok_of _)) (ok_num _)
theorem ok_spans (ps : List (Int × Int)) : PyData.strOk (spansS ps) = true := ok_join (ok_of _) _ (ok_map ok_span ps)
theorem okr2 {x y : Int} (h1 : 0 ≤ x ∧ x < 10 ^ 40) (h2 : 0 ≤ y ∧ y < 10 ^ 40) : OkR [x, y] := ⟨by simp, fun i hi => by
  simp only [List.mem_cons, List.not_mem_nil, or_false] at hi
  rcases hi with rfl | rfl
  · exact h1
  · exact h2⟩
theorem okr4 {x y z w : Int} (h1 : 0 ≤ x ∧ x < 10 ^ 40) (h2 : 0 ≤ y ∧ y < 10 ^ 40) (h3 : 0 ≤ z ∧ z < 10 ^ 40) (h4 : 0 ≤ w ∧ w < 10 ^ 40) : OkR [x, y, z, w] := ⟨by simp, fun i hi => by
  simp only [List.mem_cons, List.not_mem_nil, or_false] at hi
  rcases hi with rfl | rfl | rfl | rfl
  · exact h1
  · exact h2
  · exact h3
  · exact h4⟩
set_option linter.all false
set_option maxRecDepth 100000
set_option maxHeartbeats 4000000
open PySem PySem.Spec Ev Pu Mt Wp
/-! ### signs of texts -/
abbrev tl (x : Str) : List Nat := x.cps.toList
theorem tl_nl : tl ("\n" : Str) = [10] := by decide +kernel
theorem tl_da : tl ("-" : Str) = [45] := by decide +kernel
theorem tl_ze : tl ("0" : Str) = [48] := by decide +kernel
/-! ### split -/
theorem l_sp : ((" " : Str).length == 0) = false := by decide +kernel
theorem l_cm : ((", " : Str).length == 0) = false := by decide +kernel
theorem l_nl : (("\n" : Str).length == 0) = false := by decide +kernel
theorem l_da : (("-" : Str).length == 0) = false := by decide +kernel
theorem spl_ok {y : Str} {parts : List Str} {a : Str} (h : Txt.split a y = parts) (hy : (y.length == 0) = false) (hl : a.length + 2 ≤ sizeLine) : fSplit a y = some (.b (.l (parts.map PyData.str))) := by
  unfold fSplit
  rw [if_pos ⟨hy, hl⟩, h]
/-! ### digits -/
set_option linter.all false
set_option maxRecDepth 100000
set_option maxHeartbeats 4000000
open PySem PySem.Spec Ev Pu Mt Wp
inductive Sh : Nat → T → Prop
  | non (n : Nat) : Sh n .none
  | int (n : Nat) (i : Int) : Sh n (.int i)
  | str (n : Nat) {x : Str} : PyData.strOk x = true → Sh n (.str x)
  | tup {n : Nat} {xs : List T} : (∀ x ∈ xs, Sh n x) → Sh (n + 1) (.tuple xs)
  | lst {n : Nat} {xs : List T} : (∀ x ∈ xs, Sh n x) → Sh (n + 1) (.list xs)
theorem Sh.lay {n : Nat} {t : T} (h : Sh n t) : PyData.canLay0 t = true ∧ PyData.depth t ≤ n := by
  induction h with
  | non n => exact ⟨rfl, Nat.zero_le _⟩
  | int n i => exact ⟨rfl, Nat.zero_le _⟩
  | str n h => exact ⟨h, Nat.zero_le _⟩
  | tup h ih => exact ⟨by rw [PyData.canLay0]; exact layAll fun x hx => (ih x hx).1, by rw [PyData.depth]; exact Nat.succ_le_succ (depAll fun x hx => (ih x hx).2)⟩
  | lst h ih => exact ⟨by rw [PyData.canLay0]; exact layAll fun x hx => (ih x hx).1, by rw [PyData.depth]; exact Nat.succ_le_succ (depAll fun x hx => (ih x hx).2)⟩
theorem Sh.shaped {n : Nat} {t : T} (h : Sh n t) (hn : n ≤ 64) : SeqAt.shaped t = true := by
  unfold SeqAt.shaped
  rw [h.lay.1, Bool.true_and]
  exact decide_eq_true (Nat.le_trans h.lay.2 hn)
/-- a text as they come -/
structure Tx (s : Str) : Prop where
  len : s.length ≤ 4000000
  ok : PyData.strOk s = true
theorem Tx.fit {s : Str} (h : Tx s) : s.length + 2 ≤ sizeLine := by have := h.len; unfold sizeLine; omega
theorem gEq_str (k : Bool → Bool) {x y : Str} (hx : PyData.strOk x = true) (hy : PyData.strOk y = true) : gEq k (.str x) (.str y) = some (.r (.bool (k (x == y)))) := by
  show (if (SeqAt.shaped (.str x) && SeqAt.shaped (.str y)) = true then some (Od.r (.bool (k (PyData.eqv (.str x) (.str y))))) else none) = _
  rw [(Sh.str 0 hx).shaped (by decide), (Sh.str 0 hy).shaped (by decide)]
  rfl
theorem ok_zero : PyData.strOk ("0" : Str) = true := ok_of _
def digs (w : Str) : Bool := (tl w).all fun c => decide (48 ≤ c ∧ c ≤ 57)
def z0 (w : Str) : Bool := decide ((tl w).take 1 = [48])
def intIn (w : Str) : Option Nat := if w.length = 0 ∨ 40 < w.length ∨ digs w = false then none else if z0 w = true ∧ (w == ("0" : Str)) = false then none else some (NumText.digitsVal (tl w))
def oT (o : Option Nat) : T := match o with
  | none => .none
  | some n => nT n
def oL (o : Option Nat) : List T := match o with
  | none => []
  | some n => [nT n]
theorem dig128 : ∀ c, c < 128 → Unicode.isDigit c = decide (48 ≤ c ∧ c ≤ 57) := by decide +kernel
theorem asc_dig (w : Str) : (Txt.isascii w && Txt.isdigit w) = (decide (0 < w.length) && digs w) := by
  unfold Txt.isascii Txt.isdigit digs tl
  rw [← Array.all_toList, ← Array.all_toList]
  have this : ∀ l : List Nat, (l.all (fun x => decide (x < 128)) && l.all Unicode.isDigit) = l.all fun c => decide (48 ≤ c ∧ c ≤ 57) := by
    intro l
    induction l with
    | nil => rfl
    | cons c l ih =>
      simp only [List.all_cons]
      rw [← ih]
      by_cases h : c < 128
      · rw [dig128 c h, decide_eq_true h]
        cases decide (48 ≤ c ∧ c ≤ 57) <;> simp
      · rw [decide_eq_false h, decide_eq_false (show ¬ (48 ≤ c ∧ c ≤ 57) by omega)]
        simp
  have t2 := this w.cps.toList
  cases decide (w.length > 0) with
  | false => simp
  | true => rw [Bool.true_and, Bool.true_and]; exact t2
theorem st_z0 (w : Str) : Txt.startswith w "0" = z0 w := by
  unfold Txt.startswith z0
  have h1 : ("0" : Str).length = 1 := by decide +kernel
  rw [StrLaws.subAt_eq, h1, List.drop_zero]
  show (decide (0 + 1 ≤ w.length) && ((tl w).take 1 == tl ("0" : Str))) = _
  rw [tl_ze, show w.length = (tl w).length from TL.len_tl w]
  cases tl w with
  | nil => rfl
  | cons c l =>
    simp
    rfl
theorem int_dig {w : Str} (h0 : 0 < w.length) (h1 : w.length ≤ 40) (hd : digs w = true) : gIntT [.str w] = some (.r (nT (NumText.digitsVal (tl w)))) := by
  have h2 : intText? w = some ((NumText.digitsVal (tl w) : Nat) : Int) := intText_digits (fun c hc => of_decide_eq_true (List.all_eq_true.mp hd c hc)) (by
    intro e
    rw [show w.length = (tl w).length from TL.len_tl w, show tl w = w.cps.toList from rfl, e] at h0
    exact absurd h0 (by decide)) (by omega)
  show fIntT (.str w) = _
  simp only [fIntT, h2]
  rw [if_pos (by omega)]
theorem told_int {w : Str} (h : Tx w) : m_told_integer [.v (.str w)] = .ok (.r (oT (intIn w))) [.v (.str w)] := by
  have hs : w.length ≤ sizeLine := by have := h.fit; omega
  obtain ⟨b1, e1⟩ : ∃ b, Txt.isascii w = b := ⟨_, rfl⟩
  obtain ⟨b2, e2⟩ : ∃ b, Txt.isdigit w = b := ⟨_, rfl⟩
  have f1 : fAscii w = some (.r (.bool b1)) := by unfold fAscii; rw [e1]
  have f2 : fDigit w = some (.r (.bool b2)) := by unfold fDigit; rw [e2]
  have hb := asc_dig w
  rw [e1, e2] at hb
  obtain ⟨b3, e3⟩ : ∃ b, z0 w = b := ⟨_, rfl⟩
  have f5 : fStarts w "0" = some (.r (.bool b3)) := by unfold fStarts; rw [st_z0, e3]
  obtain ⟨b4, e4⟩ : ∃ b, (w == ("0" : Str)) = b := ⟨_, rfl⟩
  have f4 := gEq_str not h.ok ok_zero
  rw [e4] at f4
  have f3 := fun a b c => int_dig (w := w) a b c
  clear h e1 e2
  refine w_eq ?_
  unfold m_told_integer
  (apply Wp.w_fun; (focus (rfl; done)); (focus (((try simp only [List.cons_append, List.nil_append, List.length_cons, List.length_nil, Nat.reduceAdd, Nat.reduceSub, Nat.zero_add, Nat.sub_zero, List.replicate_succ, List.replicate_zero, List.append_nil]); rfl); done)))
  unfold b_told_integer
  have bad : (b1 && b2) = false → intIn w = none := fun z => by
    unfold intIn
    rw [if_pos]
    rw [hb] at z
    by_cases q : w.length = 0
    · exact .inl q
    · rw [decide_eq_true (by omega), Bool.true_and] at z
      exact .inr (.inr z)
  cases b1 with
  | false =>
    rw [bad rfl]
    repeat' decreasing_trivial_pre_omega
    exact ⟨rfl, rfl⟩
  | true =>
    cases b2 with
    | false =>
      rw [bad rfl]
      repeat' decreasing_trivial_pre_omega
      exact ⟨rfl, rfl⟩
    | true =>
      have h2 : 0 < w.length ∧ digs w = true := by simpa using hb.symm
      clear bad hb
      repeat' decreasing_trivial_pre_omega
      refine kif_d (fun h40 => ?_) fun h40 => ?_
      · have : intIn w = none := by unfold intIn; rw [if_pos (.inr (.inl (by omega)))]
        rw [this]
        clear f3
        repeat' decreasing_trivial_pre_omega
        exact ⟨rfl, rfl⟩
      · have h40' : w.length ≤ 40 := by omega
        have g3 := f3 h2.1 h40' h2.2
        clear f3
        have hi : intIn w = if b3 = true ∧ b4 = false then none else some (NumText.digitsVal (tl w)) := by
          unfold intIn
          rw [if_neg (by rw [h2.2]; simp; omega), e3, e4]
        generalize NumText.digitsVal (tl w) = n at g3 hi
        rw [hi]
        clear hi e3 e4 h2
        cases b3 with
        | false =>
          rw [if_neg (by simp)]
          repeat' decreasing_trivial_pre_omega
          exact ⟨rfl, rfl⟩
        | true =>
          cases b4 with
          | true =>
            rw [if_neg (by simp)]
            repeat' decreasing_trivial_pre_omega
            exact ⟨rfl, rfl⟩
          | false =>
            rw [if_pos ⟨rfl, rfl⟩]
            repeat' decreasing_trivial_pre_omega
            exact ⟨rfl, rfl⟩

set_option linter.all false
set_option maxRecDepth 100000
set_option maxHeartbeats 4000000
open PySem PySem.Spec Ev Pu Mt Wp
theorem tl_dig : tl ("0123456789" : Str) = [48, 49, 50, 51, 52, 53, 54, 55, 56, 57] := by decide +kernel
def dg (c : Nat) : Bool := decide (48 ≤ c ∧ c ≤ 57)
theorem niS (c : Nat) : gNiS (.str ⟨#[c]⟩) (.str "0123456789") = some (.r (.bool (!dg c))) := by
  show some (Od.r (.bool (!decide (c ∈ tl ("0123456789" : Str))))) = _
  rw [tl_dig]
  unfold dg
  have : decide (c ∈ [48, 49, 50, 51, 52, 53, 54, 55, 56, 57]) = decide (48 ≤ c ∧ c ≤ 57) := by
    refine decide_eq_decide.mpr ?_
    simp only [List.mem_cons, List.not_mem_nil, or_false]
    omega
  rw [this]
theorem ok_sign {c : Nat} (h : c < 1114112) : PyData.strOk ⟨#[c]⟩ = true := by
  unfold PyData.strOk
  simp [h]
theorem ok_mem {w : Str} (h : PyData.strOk w = true) {c : Nat} (hc : c ∈ tl w) : c < 1114112 := by
  unfold PyData.strOk at h
  rw [← Array.all_toList] at h
  exact of_decide_eq_true (List.all_eq_true.mp h c hc)
theorem gEq_nl (k : Bool → Bool) {n : Nat} (hn : n ≤ 60) {xs : List T} (h : ∀ x ∈ xs, Sh n x) : gEq k (.list xs) (.list []) = some (.r (.bool (k xs.isEmpty))) := by
  show (if (SeqAt.shaped (.list xs) && SeqAt.shaped (.list [])) = true then some (Od.r (.bool (k (PyData.eqv (.list xs) (.list []))))) else none) = _
  rw [(Sh.lst h).shaped (by omega), show SeqAt.shaped (.list []) = true from rfl]
  cases xs <;> rfl
theorem emp_s (w : Str) : (w == ("" : Str)) = decide (w.length = 0) := by
  have e : ("" : Str) = ⟨#[]⟩ := rfl
  by_cases h : w.length = 0
  · rw [decide_eq_true h]
    have : w = ("" : Str) := TL.ext_tl (by rw [List.eq_nil_of_length_eq_zero (l := TL.tl w) (by rw [← TL.len_tl]; exact h)]; rfl)
    rw [this]; exact beq_self_eq_true _
  · rw [decide_eq_false h]
    refine beq_eq_false_iff_ne.mpr fun e => h ?_
    rw [e]; decide +kernel
theorem ok_emp : PyData.strOk ("" : Str) = true := ok_of _
theorem law_int {w : Str} (h : Tx w) : W (m__law_integer_in [.v (.str w)]) fun r e => r = .b (.l (oL (intIn w))) ∧ e = [.v (.str w)] := by
  have hs : w.length ≤ sizeLine := by have := h.fit; omega
  have f1 := gEq_str id h.ok ok_emp
  rw [emp_s] at f1
  have f4 := gEq_str not h.ok ok_zero
  obtain ⟨b4, e4⟩ : ∃ b, (w == ("0" : Str)) = b := ⟨_, rfl⟩
  rw [e4] at f4
  have f3 := fun a b c => int_dig (w := w) a b c
  have okm := fun c hc => ok_mem h.ok (c := c) hc
  unfold m__law_integer_in
  (apply Wp.w_fun; (focus (rfl; done)); (focus (((try simp only [List.cons_append, List.nil_append, List.length_cons, List.length_nil, Nat.reduceAdd, Nat.reduceSub, Nat.zero_add, Nat.sub_zero, List.replicate_succ, List.replicate_zero, List.append_nil]); rfl); done)))
  unfold b__law_integer_in x1__law_integer_in
  have hlen : w.length = (tl w).length := TL.len_tl w
  by_cases h0 : w.length = 0
  · have : intIn w = none := by unfold intIn; rw [if_pos (.inl h0)]
    rw [this]
    have f1' : gEq id (.str w) (.str "") = some (.r (.bool true)) := by rw [f1]; simp [h0]
    clear f1 f3 f4 okm
    repeat' decreasing_trivial_pre_omega
    exact ⟨rfl, rfl⟩
  · have f1' : gEq id (.str w) (.str "") = some (.r (.bool false)) := by rw [f1]; simp [h0]
    clear f1
    repeat' decreasing_trivial_pre_omega
    by_cases h40 : 40 < w.length
    · have : intIn w = none := by unfold intIn; rw [if_pos (.inr (.inl h40))]
      rw [this]
      clear f3 f4 okm
      refine kor_t (decide_eq_true (by omega)) ?_
      repeat' decreasing_trivial_pre_omega
      exact ⟨rfl, rfl⟩
    · refine kor_f (decide_eq_false (by omega)) ?_
      clear f3
      repeat' decreasing_trivial_pre_omega
      unfold signsT
      refine comp_filter_w (fun c => PyData.str ⟨#[c]⟩) (fun c => PyData.str ⟨#[c]⟩) (fun c => !dg c) (tl w) (by rw [← hlen]; exact hs) (fun c hc => ⟨_, rfl, ?_⟩) ?_
      · have q := niS c
        repeat' decreasing_trivial_pre_omega
        refine ⟨rfl, fun _ => rfl, fun _ => ?_⟩
        repeat' decreasing_trivial_pre_omega
        exact ⟨rfl, rfl⟩
      · have hsh : ∀ x ∈ ((tl w).filter fun c => !dg c).map (fun c => PyData.str ⟨#[c]⟩), Sh 0 x := fun x hx => by
          obtain ⟨c, hc, rfl⟩ := List.mem_map.mp hx
          exact .str 0 (ok_sign (okm c (List.mem_filter.mp hc).1))
        have q := gEq_nl not (by decide) hsh
        have hem : (((tl w).filter fun c => !dg c).map (fun c => PyData.str ⟨#[c]⟩)).isEmpty = digs w := by
          unfold digs
          rw [List.isEmpty_map]
          have key : ∀ l : List Nat, (l.filter fun c => !dg c).isEmpty = l.all fun c => decide (48 ≤ c ∧ c ≤ 57) := by
            intro l
            induction l with
            | nil => rfl
            | cons c l ih =>
              rw [List.filter_cons, List.all_cons, ← ih]
              unfold dg
              cases decide (48 ≤ c ∧ c ≤ 57) <;> simp
          exact key _
        rw [hem] at q
        clear hsh hem okm
        generalize ((tl w).filter fun c => !dg c).map (fun c => PyData.str ⟨#[c]⟩) = xs at q
        by_cases hd : digs w = true
        · rw [hd] at q
          obtain ⟨c, l, hcl⟩ : ∃ c l, tl w = c :: l := by
            cases htl : tl w with
            | nil => rw [hlen, htl] at h0; exact absurd rfl h0
            | cons c l => exact ⟨c, l, rfl⟩
          have q2 : gIxS (.str w) (.int 0) = some (.r (.str ⟨#[c]⟩)) := by
            show (if w.length ≤ sizeLine then (L2.atI (tl w) 0).map (fun c => Od.r (.str ⟨#[c]⟩)) else none) = _
            rw [if_pos hs, hcl]
            have : L2.ixN (c :: l).length ((0 : Nat) : Int) = some 0 := ixN_nat (by simp)
            unfold L2.atI
            rw [show (0 : Int) = ((0 : Nat) : Int) from rfl, this]
            rfl
          have okc : PyData.strOk ⟨#[c]⟩ = true := ok_sign (ok_mem h.ok (by rw [hcl]; simp))
          have q3 := gEq_str id okc ok_zero
          have e3 : ((⟨#[c]⟩ : Str) == ("0" : Str)) = z0 w := by
            unfold z0
            rw [hcl]
            by_cases hc : c = 48
            · subst hc
              rw [decide_eq_true (show List.take 1 (48 :: l) = [48] from rfl)]
              decide +kernel
            · rw [decide_eq_false (by simp; exact hc)]
              refine beq_eq_false_iff_ne.mpr fun e => hc ?_
              have := congrArg tl e
              rw [tl_ze] at this
              simpa [tl] using this
          rw [e3] at q3
          obtain ⟨b3, e3'⟩ : ∃ b, z0 w = b := ⟨_, rfl⟩
          rw [e3'] at q3
          have g3 := int_dig (w := w) (by omega) (by omega) hd
          have hi : intIn w = if b3 = true ∧ b4 = false then none else some (NumText.digitsVal (tl w)) := by
            unfold intIn
            rw [if_neg (by rw [hd]; simp; omega), e3', e4]
          generalize NumText.digitsVal (tl w) = n at g3 hi
          rw [hi]
          clear hi e3 e3' e4 hcl hlen hd h0 h40 okc
          repeat' decreasing_trivial_pre_omega
          cases b3 with
          | false =>
            rw [if_neg (by simp)]
            repeat' decreasing_trivial_pre_omega
            exact ⟨rfl, rfl⟩
          | true =>
            cases b4 with
            | true =>
              rw [if_neg (by simp)]
              repeat' decreasing_trivial_pre_omega
              exact ⟨rfl, rfl⟩
            | false =>
              rw [if_pos ⟨rfl, rfl⟩]
              repeat' decreasing_trivial_pre_omega
              exact ⟨rfl, rfl⟩
        · have hd' : digs w = false := by simpa using hd
          rw [hd'] at q
          have : intIn w = none := by unfold intIn; rw [if_pos (.inr (.inr hd'))]
          rw [this]
          repeat' decreasing_trivial_pre_omega
          exact ⟨rfl, rfl⟩

set_option linter.all false
set_option maxRecDepth 100000
set_option maxHeartbeats 4000000
open PySem PySem.Spec Ev Pu Mt Wp
def allO {α : Type} : List (Option α) → Option (List α)
  | [] => some []
  | none :: _ => none
  | some a :: l => (allO l).map (a :: ·)
theorem allO_none {α : Type} : ∀ {os : List (Option α)}, os.any Option.isNone = true → allO os = none
  | none :: _, _ => rfl
  | some a :: l, h => by
    have : l.any Option.isNone = true := by simpa using h
    rw [allO, allO_none this]; rfl
theorem allO_some {α : Type} : ∀ {os : List (Option α)}, os.any Option.isNone = false → ∃ l, allO os = some l ∧ os = l.map some
  | [], _ => ⟨[], rfl, rfl⟩
  | none :: _, h => by simp at h
  | some a :: l, h => by
    obtain ⟨l', h1, h2⟩ := allO_some (os := l) (by simpa using h)
    exact ⟨a :: l', by rw [allO, h1]; rfl, by rw [h2]; rfl⟩
theorem allO_map {α β : Type} (f : α → β) : ∀ os : List (Option α), allO (os.map (Option.map f)) = (allO os).map (List.map f)
  | [] => rfl
  | none :: _ => rfl
  | some a :: l => by
    show (allO (l.map (Option.map f))).map (f a :: ·) = ((allO l).map (a :: ·)).map (List.map f)
    rw [allO_map f l]
    cases allO l <;> rfl
def intsIn (ws : List Str) (k : Nat) : Option (List Nat) := (allO (ws.map intIn)).bind fun l => if l.length = k then some l else none
def tuT (l : List Nat) : T := .tuple (l.map nT)
def roT (o : Option (List Nat)) : T := match o with
  | none => .none
  | some l => tuT l
theorem sh_oT (o : Option Nat) : Sh 0 (oT o) := by cases o with | none => exact .non 0 | some n => exact .int 0 _
theorem gIn_o {α : Type} (f : Option α → T) (hf : f none = .none) (hn : ∀ a, PyData.eqv (f (some a)) .none = false) {n : Nat} (hn60 : n ≤ 60) (hs : ∀ o, Sh n (f o)) (os : List (Option α)) : gIn id .none (.list (os.map f)) = some (.r (.bool (os.any Option.isNone))) := by
  have h1 : SeqAt.shaped .none = true := by decide +kernel
  have h2 : SeqAt.shaped (.list (os.map f)) = true := (Sh.lst (n := n) fun x hx => by obtain ⟨o, _, rfl⟩ := List.mem_map.mp hx; exact hs o).shaped (by omega)
  show (if (SeqAt.shaped .none && SeqAt.shaped (.list (os.map f))) = true then some (Od.r (.bool (id ((os.map f).any fun z => PyData.eqv z .none)))) else none) = _
  rw [h1, h2]
  have : ((os.map f).any fun z => PyData.eqv z .none) = os.any Option.isNone := by
    induction os with
    | nil => rfl
    | cons o os ih =>
      have ih := ih ((Sh.lst (n := n) fun x hx => by obtain ⟨o, _, rfl⟩ := List.mem_map.mp hx; exact hs o).shaped (by omega))
      rw [List.map_cons, List.any_cons, List.any_cons, ih]
      cases o with
      | none => rw [hf]; rfl
      | some a => rw [hn]; rfl
  rw [this]
  rfl
def fzS (ys : List Str) : Sl := .fz (.l (ys.map PyData.str))
theorem told_ints {ws : List Str} (h : ∀ w ∈ ws, Tx w) (hl : ws.length ≤ sizeLine) (k : Nat) : m__told_integers [.ow true (.l (ws.map PyData.str)), .v (nT k)] = .ok (.r (roT (intsIn ws k))) [fzS ws, .v (nT k)] := by
  have g1 := gIn_o oT rfl (fun _ => rfl) (n := 0) (by decide) sh_oT (ws.map intIn)
  rw [List.map_map] at g1
  refine w_eq ?_
  unfold m__told_integers
  (apply Wp.w_fun; (focus (rfl; done)); (focus (((try simp only [List.cons_append, List.nil_append, List.length_cons, List.length_nil, Nat.reduceAdd, Nat.reduceSub, Nat.zero_add, Nat.sub_zero, List.replicate_succ, List.replicate_zero, List.append_nil]); rfl); done)))
  unfold b__told_integers x1__told_integers
  repeat' decreasing_trivial_pre_omega
  refine comp_map_w PyData.str (fun w => oT (intIn w)) ws hl (fun w hw => ⟨_, rfl, ?_⟩) ?_
  · have t := told_int (h w hw)
    clear g1
    repeat' decreasing_trivial_pre_omega
    refine w_of t ?_
    repeat' decreasing_trivial_pre_omega
    exact ⟨rfl, rfl⟩
  · have g1 : gIn id PyData.none (.list (ws.map fun w => oT (intIn w))) = some (.r (.bool ((ws.map intIn).any Option.isNone))) := g1
    obtain ⟨b, hb⟩ : ∃ b, (ws.map intIn).any Option.isNone = b := ⟨_, rfl⟩
    rw [hb] at g1
    have hln : (ws.map fun w => oT (intIn w)).length = ws.length := List.length_map ..
    cases b with
    | true =>
      have : intsIn ws k = none := by unfold intsIn; rw [allO_none hb]; rfl
      rw [this]
      clear hb this
      repeat' decreasing_trivial_pre_omega
      by_cases hk : ws.length = k
      · refine kor_f (decide_eq_false (by rw [hln, hk]; simp)) ?_
        repeat' decreasing_trivial_pre_omega
        exact ⟨rfl, rfl⟩
      · refine kor_t (decide_eq_true (by rw [hln]; omega)) ?_
        repeat' decreasing_trivial_pre_omega
        exact ⟨rfl, rfl⟩
    | false =>
      obtain ⟨l, h1, h2⟩ := allO_some hb
      have hl2 : ws.length = l.length := by have := congrArg List.length h2; simpa using this
      have he : (ws.map fun w => oT (intIn w)) = l.map nT := by
        have : (ws.map fun w => oT (intIn w)) = (ws.map intIn).map oT := by rw [List.map_map]; rfl
        rw [this, h2, List.map_map]; rfl
      have hi : intsIn ws k = if l.length = k then some l else none := by unfold intsIn; rw [h1]; rfl
      rw [hi]
      clear hi hb h1 h2
      rw [he] at g1 ⊢
      clear he hln
      by_cases hk : l.length = k
      · rw [if_pos hk]
        repeat' decreasing_trivial_pre_omega
        refine kor_f (decide_eq_false (by rw [List.length_map, hk]; simp)) ?_
        repeat' decreasing_trivial_pre_omega
        exact ⟨rfl, rfl⟩
      · rw [if_neg hk]
        repeat' decreasing_trivial_pre_omega
        refine kor_t (decide_eq_true (by rw [List.length_map]; omega)) ?_
        repeat' decreasing_trivial_pre_omega
        exact ⟨rfl, rfl⟩
/-! ### the law's -/
def liT (o : Option T) : T := .list o.toList
theorem gIn_l {n : Nat} (hn : n ≤ 60) (os : List (Option T)) (hs : ∀ t, some t ∈ os → Sh n t) : gIn id (.list []) (.list (os.map liT)) = some (.r (.bool (os.any Option.isNone))) := by
  have h1 : SeqAt.shaped (.list []) = true := rfl
  have sl : ∀ o ∈ os, Sh (n + 1) (liT o) := fun o ho => .lst fun x hx => by
    cases o with
    | none => cases hx
    | some t => rw [List.mem_singleton.mp hx]; exact hs t ho
  have h2 : SeqAt.shaped (.list (os.map liT)) = true := (Sh.lst (n := n + 1) fun x hx => by obtain ⟨o, ho, rfl⟩ := List.mem_map.mp hx; exact sl o ho).shaped (by omega)
  show (if (SeqAt.shaped (.list []) && SeqAt.shaped (.list (os.map liT))) = true then some (Od.r (.bool (id ((os.map liT).any fun z => PyData.eqv z (.list []))))) else none) = _
  rw [h1, h2]
  have : ∀ os : List (Option T), ((os.map liT).any fun z => PyData.eqv z (.list [])) = os.any Option.isNone := by
    intro os
    induction os with
    | nil => rfl
    | cons o os ih =>
      rw [List.map_cons, List.any_cons, List.any_cons, ih]
      cases o <;> rfl
  rw [this]
  rfl
def alT (os : List (Option T)) : List T := ((allO os).map PyData.tuple).toList
theorem all_in {n : Nat} (hn : n ≤ 60) (os : List (Option T)) (hs : ∀ t, some t ∈ os → Sh n t) (hl : os.length ≤ sizeLine) : W (m__law_all_in [.ow true (.l (os.map liT))]) fun r e => r = .b (.l (alT os)) ∧ ∃ s, e = [s] ∧ lentS s = true := by
  have g := gIn_l hn os hs
  unfold m__law_all_in
  (apply Wp.w_fun; (focus (rfl; done)); (focus (((try simp only [List.cons_append, List.nil_append, List.length_cons, List.length_nil, Nat.reduceAdd, Nat.reduceSub, Nat.zero_add, Nat.sub_zero, List.replicate_succ, List.replicate_zero, List.append_nil]); rfl); done)))
  unfold b__law_all_in x1__law_all_in
  obtain ⟨b, hb⟩ : ∃ b, os.any Option.isNone = b := ⟨_, rfl⟩
  rw [hb] at g
  cases b with
  | true =>
    have : alT os = [] := by unfold alT; rw [allO_none hb]; rfl
    rw [this]
    repeat' decreasing_trivial_pre_omega
    exact ⟨rfl, _, rfl, rfl⟩
  | false =>
    obtain ⟨l, h1, h2⟩ := allO_some hb
    have : alT os = [.tuple l] := by unfold alT; rw [h1]; rfl
    rw [this]
    have e : os.map liT = l.map fun t => .list [t] := by rw [h2, List.map_map]; rfl
    have hl2 : l.length ≤ sizeLine := by rw [h2, List.length_map] at hl; exact hl
    clear h1 h2 hb this hs hl
    rw [e] at g ⊢
    repeat' decreasing_trivial_pre_omega
    refine comp_map_w (fun t => PyData.list [t]) (fun t => t) l hl2 (fun t ht => ⟨_, rfl, ?_⟩) ?_
    · clear g
      repeat' decreasing_trivial_pre_omega
      exact ⟨rfl, rfl⟩
    · rw [List.map_id']
      repeat' decreasing_trivial_pre_omega
      exact ⟨rfl, _, rfl, rfl⟩

set_option linter.all false
set_option maxRecDepth 100000
set_option maxHeartbeats 4000000
open PySem PySem.Spec Ev Pu Mt Wp
theorem okA {x y : Str} (h : PyData.strOk (x ++ y) = true) : PyData.strOk x = true ∧ PyData.strOk y = true := by
  unfold PyData.strOk at *
  have h : (x.cps ++ y.cps).all _ = true := h
  rw [Array.all_append, Bool.and_eq_true] at h
  exact h
theorem join_cc (y x z : Str) (zs : List Str) : Str.join y (x :: z :: zs) = x ++ y ++ Str.join y (z :: zs) := by
  rw [Str.join]
  intro e; cases e
theorem join_parts {y : Str} (hy : 1 ≤ y.length) : ∀ ps : List Str, PyData.strOk (Str.join y ps) = true → (∀ p ∈ ps, p.length ≤ (Str.join y ps).length ∧ PyData.strOk p = true) ∧ ps.length ≤ (Str.join y ps).length + 1
  | [], _ => ⟨fun p hp => (by cases hp), by simp⟩
  | [x], h => ⟨fun p hp => by rw [List.mem_singleton.mp hp]; exact ⟨Nat.le_refl _, h⟩, by simp⟩
  | x :: z :: zs, h => by
    rw [join_cc] at h ⊢
    obtain ⟨h1, h2⟩ := okA h
    obtain ⟨ih1, ih2⟩ := join_parts hy (z :: zs) h2
    rw [app_len, app_len]
    refine ⟨fun p hp => ?_, ?_⟩
    · rcases List.mem_cons.mp hp with rfl | hp
      · exact ⟨by omega, (okA h1).1⟩
      · have := ih1 p hp
        exact ⟨by omega, this.2⟩
    · rw [List.length_cons]; omega
theorem spl_ne {a y : Str} (hy : (y.length == 0) = false) : Txt.split a y ≠ [] := fun e => by
  have h := StrLaws.join_split a y
  rw [e] at h
  have ha : a.length = 0 := by rw [← h]; rfl
  have hy1 : 0 < y.length := by
    have : y.length ≠ 0 := by simpa using hy
    omega
  unfold Txt.split at e
  rw [if_pos (by rw [decide_eq_true (by omega)]; rfl)] at e
  cases e
structure Sp (a y : Str) : Prop where
  f : fSplit a y = some (.b (.l ((Txt.split a y).map PyData.str)))
  tx : ∀ p ∈ Txt.split a y, Tx p ∧ p.length ≤ a.length
  few : (Txt.split a y).length ≤ a.length + 1
  ne : Txt.split a y ≠ []
theorem spl_tx {a y : Str} (h : Tx a) (hy : (y.length == 0) = false) : Sp a y := by
  have hy1 : 1 ≤ y.length := by
    have : y.length ≠ 0 := by simpa using hy
    omega
  have j := StrLaws.join_split a y
  obtain ⟨h1, h2⟩ := join_parts hy1 (Txt.split a y) (by rw [j]; exact h.ok)
  rw [j] at h1 h2
  exact ⟨spl_ok rfl hy h.fit, fun p hp => ⟨⟨Nat.le_trans (h1 p hp).1 h.len, (h1 p hp).2⟩, (h1 p hp).1⟩, h2, spl_ne hy⟩
theorem Sp.fits {a y : Str} (h : Sp a y) (ha : Tx a) : (Txt.split a y).length ≤ sizeLine := by
  have := h.few
  have := ha.fit
  omega
theorem oL_eq (o : Option Nat) : PyData.list (oL o) = liT (o.map nT) := by cases o <;> rfl
theorem law_ints {a y : Str} (h : Tx a) (hy : (y.length == 0) = false) (k : Nat) : W (m__law_integers_in [.v (.str a), .v (nT k), .v (.str y)]) fun r e => r = .b (.l (((intsIn (Txt.split a y) k).map tuT).toList)) ∧ e = [.v (.str a), .v (nT k), .v (.str y)] := by
  have s := spl_tx h hy
  have sf := s.f
  have hl := s.fits h
  have htx := s.tx
  clear s
  unfold intsIn
  generalize Txt.split a y = ws at *
  unfold m__law_integers_in
  (apply Wp.w_fun; (focus (rfl; done)); (focus (((try simp only [List.cons_append, List.nil_append, List.length_cons, List.length_nil, Nat.reduceAdd, Nat.reduceSub, Nat.zero_add, Nat.sub_zero, List.replicate_succ, List.replicate_zero, List.append_nil]); rfl); done)))
  unfold b__law_integers_in x1__law_integers_in
  repeat' decreasing_trivial_pre_omega
  refine comp_map_w PyData.str (fun w => liT ((intIn w).map nT)) ws hl (fun w hw => ⟨_, rfl, ?_⟩) ?_
  · have t := law_int (htx w hw).1
    clear htx
    repeat' decreasing_trivial_pre_omega
    refine w_imp t ?_
    rintro _ _ ⟨rfl, rfl⟩
    rw [← oL_eq]
    repeat' decreasing_trivial_pre_omega
    exact ⟨rfl, rfl⟩
  · clear htx sf
    have e1 : (ws.map fun w => liT ((intIn w).map nT)) = ((ws.map intIn).map (Option.map nT)).map liT := by rw [List.map_map, List.map_map]; rfl
    have ai := all_in (n := 0) (by decide) ((ws.map intIn).map (Option.map nT)) (fun t ht => by
      obtain ⟨o, _, e⟩ := List.mem_map.mp ht
      cases o with
      | none => cases e
      | some n => cases e; exact .int 0 _) (by rw [List.length_map, List.length_map]; exact hl)
    have e2 : alT ((ws.map intIn).map (Option.map nT)) = ((allO (ws.map intIn)).map tuT).toList := by
      unfold alT
      rw [allO_map, Option.map_map]
      rfl
    rw [e2] at ai
    rw [e1]
    generalize ((ws.map intIn).map (Option.map nT)).map liT = xs at ai ⊢
    generalize allO (ws.map intIn) = o at ai ⊢
    clear e1 e2
    repeat' decreasing_trivial_pre_omega
    refine w_imp ai ?_
    rintro _ _ ⟨rfl, s, rfl, hs⟩
    clear ai
    cases o with
    | none =>
      have q : gEq not (.list []) (.list []) = some (.r (.bool false)) := rfl
      repeat' decreasing_trivial_pre_omega
      exact ⟨rfl, rfl⟩
    | some l =>
      have q : gEq not (.list [tuT l]) (.list []) = some (.r (.bool true)) := gEq_nl not (n := 1) (by decide) (fun x hx => by
        rw [List.mem_singleton.mp hx]
        exact .tup fun z hz => by obtain ⟨n, _, rfl⟩ := List.mem_map.mp hz; exact .int 0 _)
      unfold tuT at *
      repeat' decreasing_trivial_pre_omega
      by_cases hk : l.length = k
      · refine kife_t (decide_eq_true (by rw [List.length_map, hk])) ?_
        repeat' decreasing_trivial_pre_omega
        exact ⟨by show _ = Od.b (.l (((if l.length = k then some l else none).map fun l => PyData.tuple (l.map nT)).toList)); rw [if_pos hk], rfl⟩
      · refine kife_f (decide_eq_false (by rw [List.length_map]; omega)) ?_
        repeat' decreasing_trivial_pre_omega
        exact ⟨by show _ = Od.b (.l (((if l.length = k then some l else none).map fun l => PyData.tuple (l.map nT)).toList)); rw [if_neg hk]; rfl, rfl⟩
/-! ### rows -/
def rowsIn (a : Str) : Option (List (List Nat)) := allO ((Txt.split a ", ").map fun p => intsIn (Txt.split p " ") 3)
def rwT (l : List (List Nat)) : T := .tuple (l.map tuT)
def rsT (o : Option (List (List Nat))) : T := match o with
  | none => .none
  | some l => rwT l
theorem sh_tu (l : List Nat) : Sh 1 (tuT l) := .tup fun z hz => by obtain ⟨n, _, rfl⟩ := List.mem_map.mp hz; exact .int 0 _
theorem sh_ro (o : Option (List Nat)) : Sh 1 (roT o) := by cases o with | none => exact .non 1 | some l => exact sh_tu l
theorem told_rows {a : Str} (h : Tx a) : m__told_rows [.v (.str a)] = .ok (.r (rsT (rowsIn a))) [.v (.str a)] := by
  have s := spl_tx h l_cm
  have sf := s.f
  have hl := s.fits h
  have htx := s.tx
  clear s
  unfold rowsIn
  generalize Txt.split a ", " = ps at *
  have g1 := gIn_o roT rfl (fun _ => rfl) (n := 1) (by decide) sh_ro (ps.map fun p => intsIn (Txt.split p " ") 3)
  rw [List.map_map] at g1
  refine w_eq ?_
  unfold m__told_rows
  (apply Wp.w_fun; (focus (rfl; done)); (focus (((try simp only [List.cons_append, List.nil_append, List.length_cons, List.length_nil, Nat.reduceAdd, Nat.reduceSub, Nat.zero_add, Nat.sub_zero, List.replicate_succ, List.replicate_zero, List.append_nil]); rfl); done)))
  unfold b__told_rows x1__told_rows
  repeat' decreasing_trivial_pre_omega
  refine comp_map_w PyData.str (fun p => roT (intsIn (Txt.split p " ") 3)) ps hl (fun p hp => ⟨_, rfl, ?_⟩) ?_
  · have tp := (htx p hp).1
    have s2 := spl_tx tp l_sp
    have f2 := s2.f
    have t2 := told_ints (fun w hw => (s2.tx w hw).1) (s2.fits tp) 3
    clear g1 sf htx
    generalize Txt.split p " " = ws at *
    clear s2
    repeat' decreasing_trivial_pre_omega
    refine w_of t2 ?_
    clear t2
    repeat' decreasing_trivial_pre_omega
    exact ⟨rfl, rfl⟩
  · have g1 : gIn id PyData.none (.list (ps.map fun p => roT (intsIn (Txt.split p " ") 3))) = some (.r (.bool ((ps.map fun p => intsIn (Txt.split p " ") 3).any Option.isNone))) := g1
    have e1 : (ps.map fun p => roT (intsIn (Txt.split p " ") 3)) = (ps.map fun p => intsIn (Txt.split p " ") 3).map roT := by rw [List.map_map]; rfl
    rw [e1] at g1 ⊢
    generalize (ps.map fun p => intsIn (Txt.split p " ") 3) = os at g1 ⊢
    clear e1 htx sf
    obtain ⟨b, hb⟩ : ∃ b, os.any Option.isNone = b := ⟨_, rfl⟩
    rw [hb] at g1
    cases b with
    | true =>
      rw [allO_none hb]
      repeat' decreasing_trivial_pre_omega
      exact ⟨rfl, rfl⟩
    | false =>
      obtain ⟨l, h1, h2⟩ := allO_some hb
      rw [h1]
      have e2 : os.map roT = l.map tuT := by rw [h2, List.map_map]; rfl
      rw [e2] at g1 ⊢
      repeat' decreasing_trivial_pre_omega
      exact ⟨rfl, rfl⟩
theorem law_rows {a : Str} (h : Tx a) : W (m__law_parts_in [.v (.str a)]) fun r e => r = .b (.l (((rowsIn a).map rwT).toList)) ∧ e = [.v (.str a)] := by
  have s := spl_tx h l_cm
  have sf := s.f
  have hl := s.fits h
  have htx := s.tx
  clear s
  unfold rowsIn
  generalize Txt.split a ", " = ps at *
  unfold m__law_parts_in
  (apply Wp.w_fun; (focus (rfl; done)); (focus (((try simp only [List.cons_append, List.nil_append, List.length_cons, List.length_nil, Nat.reduceAdd, Nat.reduceSub, Nat.zero_add, Nat.sub_zero, List.replicate_succ, List.replicate_zero, List.append_nil]); rfl); done)))
  unfold b__law_parts_in x1__law_parts_in
  repeat' decreasing_trivial_pre_omega
  refine comp_map_w PyData.str (fun p => liT ((intsIn (Txt.split p " ") 3).map tuT)) ps hl (fun p hp => ⟨_, rfl, ?_⟩) ?_
  · have t := law_ints (htx p hp).1 l_sp 3
    clear htx sf
    repeat' decreasing_trivial_pre_omega
    refine w_imp t ?_
    rintro _ _ ⟨rfl, rfl⟩
    clear t
    unfold liT
    repeat' decreasing_trivial_pre_omega
    exact ⟨rfl, rfl⟩
  · have e1 : (ps.map fun p => liT ((intsIn (Txt.split p " ") 3).map tuT)) = ((ps.map fun p => intsIn (Txt.split p " ") 3).map (Option.map tuT)).map liT := by rw [List.map_map, List.map_map]; rfl
    have ai := all_in (n := 1) (by decide) ((ps.map fun p => intsIn (Txt.split p " ") 3).map (Option.map tuT)) (fun t ht => by
      obtain ⟨o, _, e⟩ := List.mem_map.mp ht
      cases o with
      | none => cases e
      | some n => cases e; exact sh_tu n) (by rw [List.length_map, List.length_map]; exact hl)
    have e2 : alT ((ps.map fun p => intsIn (Txt.split p " ") 3).map (Option.map tuT)) = ((allO (ps.map fun p => intsIn (Txt.split p " ") 3)).map rwT).toList := by
      unfold alT
      rw [allO_map, Option.map_map]
      rfl
    rw [e2] at ai
    rw [e1]
    generalize ((ps.map fun p => intsIn (Txt.split p " ") 3).map (Option.map tuT)).map liT = xs at ai ⊢
    generalize allO (ps.map fun p => intsIn (Txt.split p " ") 3) = o at ai ⊢
    clear e1 e2 htx sf
    repeat' decreasing_trivial_pre_omega
    refine w_imp ai ?_
    rintro _ _ ⟨rfl, s, rfl, hs⟩
    repeat' decreasing_trivial_pre_omega
    exact ⟨rfl, rfl⟩

set_option linter.all false
set_option maxRecDepth 100000
set_option maxHeartbeats 4000000
open PySem PySem.Spec Ev Pu Mt Wp
theorem intsIn_len {ws : List Str} {k : Nat} {l : List Nat} (h : intsIn ws k = some l) : l.length = k := by
  unfold intsIn at h
  cases q : allO (ws.map intIn) with
  | none => rw [q] at h; cases h
  | some l' =>
    rw [q] at h
    have h : (if l'.length = k then some l' else none) = some l := h
    split at h
    · cases h; assumption
    · cases h
theorem allO_mem {α : Type} {os : List (Option α)} {l : List α} (h : allO os = some l) : ∀ a ∈ l, some a ∈ os := by
  induction os generalizing l with
  | nil => cases h; intro a ha; cases ha
  | cons o os ih =>
    cases o with
    | none => cases h
    | some b =>
      rw [allO] at h
      cases q : allO os with
      | none => rw [q] at h; cases h
      | some l' =>
        rw [q] at h
        cases h
        intro a ha
        rcases List.mem_cons.mp ha with rfl | ha
        · exact List.mem_cons_self
        · exact List.mem_cons_of_mem _ (ih q a ha)
/-! ### boxes -/
def boxB : List Nat → Bool
  | [a, b, c, d] => decide (a < c) && decide (b < d)
  | _ => false
def boxIn (a : Str) : Option (List Nat) := (intsIn (Txt.split a " ") 4).bind fun l => if boxB l = true then some l else none
theorem all_tt {α : Type} (xs : List α) : gAll [.list (xs.map fun _ => PyData.bool true)] = some (.r (.bool true)) := by
  have := gAll_b (xs.map fun _ => true)
  rw [List.map_map] at this
  have e : (xs.map fun _ => true).all id = true := List.all_eq_true.mpr fun b hb => by obtain ⟨_, _, rfl⟩ := List.mem_map.mp hb; rfl
  rw [e] at this
  exact this
theorem isC_n (n : Nat) : m_is_count [.v (nT n)] = .ok (.r (.bool true)) [.v (nT n)] := by
  rw [is_count_ok]
  show Out.ok (Od.r (.bool (decide (0 ≤ (n : Int))))) _ = _
  rw [decide_eq_true (by omega)]
theorem is_box_n : m_is_box [.v .none] = .ok (.r (.bool false)) [.v .none] := by
  refine w_eq ?_
  unfold m_is_box
  (apply Wp.w_fun; (focus (rfl; done)); (focus (((try simp only [List.cons_append, List.nil_append, List.length_cons, List.length_nil, Nat.reduceAdd, Nat.reduceSub, Nat.zero_add, Nat.sub_zero, List.replicate_succ, List.replicate_zero, List.append_nil]); rfl); done)))
  unfold b_is_box
  repeat' decreasing_trivial_pre_omega
  exact ⟨rfl, rfl⟩
theorem is_box_w (a b c d : Nat) : m_is_box [.v (tuT [a, b, c, d])] = .ok (.r (.bool (boxB [a, b, c, d]))) [.v (tuT [a, b, c, d])] := by
  have g := all_tt [a, b, c, d]
  rw [show boxB [a, b, c, d] = (decide (a < c) && decide (b < d)) from rfl]
  refine w_eq ?_
  unfold m_is_box
  (apply Wp.w_fun; (focus (rfl; done)); (focus (((try simp only [List.cons_append, List.nil_append, List.length_cons, List.length_nil, Nat.reduceAdd, Nat.reduceSub, Nat.zero_add, Nat.sub_zero, List.replicate_succ, List.replicate_zero, List.append_nil]); rfl); done)))
  unfold b_is_box x1_is_box tuT
  repeat' decreasing_trivial_pre_omega
  refine comp_map_w nT (fun _ => PyData.bool true) [a, b, c, d] (by unfold sizeLine; simp) (fun i hi => ⟨_, rfl, ?_⟩) ?_
  · clear g
    have t := isC_n i
    repeat' decreasing_trivial_pre_omega
    refine w_of t ?_
    repeat' decreasing_trivial_pre_omega
    exact ⟨rfl, rfl⟩
  · repeat' decreasing_trivial_pre_omega
    by_cases h1 : a < c
    · rw [decide_eq_true h1]
      refine kande_t (decide_eq_true (by omega)) ?_
      repeat' decreasing_trivial_pre_omega
      refine ⟨?_, rfl⟩
      show Od.r (.bool (decide ((b : Int) < (d : Int)))) = _
      rw [Bool.true_and, show decide ((b : Int) < (d : Int)) = decide (b < d) from decide_eq_decide.mpr (by omega)]
    · rw [decide_eq_false h1]
      refine kande_f (decide_eq_false (by omega)) ?_
      repeat' decreasing_trivial_pre_omega
      exact ⟨rfl, rfl⟩
theorem told_box {a : Str} (h : Tx a) : m__told_box [.v (.str a)] = .ok (.r (roT (boxIn a))) [.v (.str a)] := by
  have s := spl_tx h l_sp
  have sf := s.f
  have t := told_ints (fun w hw => (s.tx w hw).1) (s.fits h) 4
  clear s
  unfold boxIn
  have hlen := fun l (q : intsIn (Txt.split a " ") 4 = some l) => intsIn_len q
  generalize intsIn (Txt.split a " ") 4 = o at *
  generalize Txt.split a " " = ws at *
  refine w_eq ?_
  unfold m__told_box
  (apply Wp.w_fun; (focus (rfl; done)); (focus (((try simp only [List.cons_append, List.nil_append, List.length_cons, List.length_nil, Nat.reduceAdd, Nat.reduceSub, Nat.zero_add, Nat.sub_zero, List.replicate_succ, List.replicate_zero, List.append_nil]); rfl); done)))
  unfold b__told_box
  repeat' decreasing_trivial_pre_omega
  refine w_of t ?_
  clear t sf
  cases o with
  | none =>
    have b := is_box_n
    repeat' decreasing_trivial_pre_omega
    refine w_of b ?_
    clear b
    repeat' decreasing_trivial_pre_omega
    exact ⟨rfl, rfl⟩
  | some l =>
    have hl := hlen l rfl
    clear hlen
    match l, hl with
    | [p, q, r, t], _ =>
    have b := is_box_w p q r t
    rw [Option.bind_some]
    generalize boxB [p, q, r, t] = k at b ⊢
    repeat' decreasing_trivial_pre_omega
    refine w_of b ?_
    clear b
    cases k with
    | true =>
      rw [if_pos rfl]
      repeat' decreasing_trivial_pre_omega
      exact ⟨rfl, rfl⟩
    | false =>
      rw [if_neg (by simp)]
      repeat' decreasing_trivial_pre_omega
      exact ⟨rfl, rfl⟩
/-! ### spans -/
def ascL : List Nat → Bool
  | a :: b :: l => decide (a < b) && ascL (b :: l)
  | _ => true
theorem asc_all : ∀ l : List Nat, (List.range (l.length - 1)).all (fun k => decide (l.getD k 0 < l.getD (k + 1) 0)) = ascL l
  | [] => rfl
  | [a] => rfl
  | a :: b :: l => by
    have ih := asc_all (b :: l)
    rw [ascL, ← ih]
    show (List.range (l.length + 1)).all _ = _
    rw [List.range_succ_eq_map, List.all_cons, List.all_map]
    rfl
def spansIn (a : Str) : Option (List (List Nat)) := (allO ((Txt.split a " ").map fun w => intsIn (Txt.split w "-") 2)).bind fun ls => if ascL ls.flatten = true then some ls else none
theorem all_bs {α : Type} (p : α → Bool) (xs : List α) : gAll [.list (xs.map fun x => PyData.bool (p x))] = some (.r (.bool (xs.all p))) := by
  have := gAll_b (xs.map p)
  rw [List.map_map] at this
  rw [show (xs.map fun x => PyData.bool (p x)) = xs.map (PyData.bool ∘ p) from rfl, this, List.all_map]
  rfl
theorem flat_len {ls : List (List Nat)} (h : ∀ l ∈ ls, l.length = 2) : ls.flatten.length = 2 * ls.length := by
  induction ls with
  | nil => rfl
  | cons l ls ih =>
    rw [List.flatten_cons, List.length_append, ih fun m hm => h m (List.mem_cons_of_mem _ hm), h l List.mem_cons_self, List.length_cons]
    omega
theorem told_spans {a : Str} (h : Tx a) : m__told_spans [.v (.str a)] = .ok (.r (rsT (spansIn a))) [.v (.str a)] := by
  have s := spl_tx h l_sp
  have sf := s.f
  have hl := s.fits h
  have hfew : (Txt.split a " ").length ≤ 4000001 := by have := s.few; have := h.len; omega
  have htx := s.tx
  have hne := List.length_pos_iff.mpr s.ne
  clear s
  unfold spansIn
  generalize Txt.split a " " = ps at *
  have g1 := gIn_o roT rfl (fun _ => rfl) (n := 1) (by decide) sh_ro (ps.map fun p => intsIn (Txt.split p "-") 2)
  rw [List.map_map] at g1
  refine w_eq ?_
  unfold m__told_spans
  (apply Wp.w_fun; (focus (rfl; done)); (focus (((try simp only [List.cons_append, List.nil_append, List.length_cons, List.length_nil, Nat.reduceAdd, Nat.reduceSub, Nat.zero_add, Nat.sub_zero, List.replicate_succ, List.replicate_zero, List.append_nil]); rfl); done)))
  unfold b__told_spans x1__told_spans
  repeat' decreasing_trivial_pre_omega
  refine comp_map_w PyData.str (fun p => roT (intsIn (Txt.split p "-") 2)) ps hl (fun p hp => ⟨_, rfl, ?_⟩) ?_
  · have tp := (htx p hp).1
    have s2 := spl_tx tp l_da
    have f2 := s2.f
    have t2 := told_ints (fun w hw => (s2.tx w hw).1) (s2.fits tp) 2
    clear g1 sf htx
    generalize Txt.split p "-" = ws at *
    clear s2
    repeat' decreasing_trivial_pre_omega
    refine w_of t2 ?_
    clear t2
    repeat' decreasing_trivial_pre_omega
    exact ⟨rfl, rfl⟩
  · have g1 : gIn id PyData.none (.list (ps.map fun p => roT (intsIn (Txt.split p "-") 2))) = some (.r (.bool ((ps.map fun p => intsIn (Txt.split p "-") 2).any Option.isNone))) := g1
    have e1 : (ps.map fun p => roT (intsIn (Txt.split p "-") 2)) = (ps.map fun p => intsIn (Txt.split p "-") 2).map roT := by rw [List.map_map]; rfl
    have hl2 : ∀ l, some l ∈ (ps.map fun p => intsIn (Txt.split p "-") 2) → l.length = 2 := fun l hl => by
      obtain ⟨p, _, e⟩ := List.mem_map.mp hl
      exact intsIn_len e
    have hn2 : (ps.map fun p => intsIn (Txt.split p "-") 2).length ≤ 4000001 ∧ 0 < (ps.map fun p => intsIn (Txt.split p "-") 2).length := by rw [List.length_map]; exact ⟨hfew, hne⟩
    rw [e1] at g1 ⊢
    generalize (ps.map fun p => intsIn (Txt.split p "-") 2) = os at g1 hl2 hn2 ⊢
    clear e1 htx sf hfew hl hne
    obtain ⟨b, hb⟩ : ∃ b, os.any Option.isNone = b := ⟨_, rfl⟩
    rw [hb] at g1
    cases b with
    | true =>
      rw [allO_none hb]
      repeat' decreasing_trivial_pre_omega
      exact ⟨rfl, rfl⟩
    | false =>
      obtain ⟨ls, h1, h2⟩ := allO_some hb
      rw [h1]
      have e2 : os.map roT = ls.map tuT := by rw [h2, List.map_map]; rfl
      have hls : ∀ l ∈ ls, l.length = 2 := fun l hl => hl2 l (by rw [h2]; exact List.mem_map.mpr ⟨l, hl, rfl⟩)
      rw [e2] at g1 ⊢
      rw [h2, List.length_map] at hn2
      clear e2 h1 h2 hb hl2 os
      rw [Option.bind_some]
      have hfl := flat_len hls
      have g2 := all_bs (fun k => decide (ls.flatten.getD k 0 < ls.flatten.getD (k + 1) 0)) (List.range (ls.flatten.length - 1))
      rw [asc_all] at g2
      repeat' decreasing_trivial_pre_omega
      unfold l1__told_spans
      repeat' decreasing_trivial_pre_omega
      refine for_on_w tuT ls (fun don e => ∃ l3 : Sl, lentS l3 = false ∧ e = [.v (.str a), .v (.list (ls.map tuT)), .ow false (.l (don.flatten.map nT)), l3, .un, .un]) ⟨.un, rfl, rfl⟩ ?_ ?_
      · rintro don p rest hd e ⟨l3, a3, rfl⟩
        have hdl : don.length < ls.length := by rw [hd]; simp
        have hfd := flat_len (ls := don) fun l hl => hls l (by rw [hd]; exact List.mem_append_left _ hl)
        have hp2 := hls p (by rw [hd]; simp)
        refine ⟨_, gN_ok (by first | rfl | exact Wp.isLent_of rfl (by assumption)) rfl, ?_⟩
        have hx : gExtT (don.flatten.map nT) [.tuple (p.map nT)] = some (don.flatten.map nT ++ p.map nT, .none) := by
          show (if (don.flatten.map nT).length + (p.map nT).length ≤ sizeLine then _ else _) = _
          rw [if_pos]
          rw [List.length_map, List.length_map, hfd, hp2]
          unfold sizeLine
          omega
        clear g1 g2
        unfold y1__told_spans tuT
        repeat' decreasing_trivial_pre_omega
        refine ⟨.v (.tuple (p.map nT)), rfl, ?_⟩
        show [_, _, Sl.ow false (.l (don.flatten.map nT ++ p.map nT)), _, _, _] = _
        rw [List.flatten_append, List.map_append]
        simp
      · rintro e ⟨l3, a3, rfl⟩
        repeat' decreasing_trivial_pre_omega
        unfold x2__told_spans
        repeat' decreasing_trivial_pre_omega
        generalize ls.flatten = es at *
        refine kr1_eq (es.length - 1) rfl (by rw [List.length_map]; omega) (by omega) ?_
        unfold below
        refine comp_map_w (fun (k : Nat) => PyData.int (k : Int)) (fun k => PyData.bool (decide (es.getD k 0 < es.getD (k + 1) 0))) (List.range (es.length - 1)) (by rw [List.length_range]; unfold sizeLine; omega) (fun k hk => ⟨_, rfl, ?_⟩) ?_
        · have hk := List.mem_range.mp hk
          have q1 : (es.map nT)[k]? = some (nT (es.getD k 0)) := by rw [List.getElem?_map, List.getD_eq_getElem?_getD, List.getElem?_eq_getElem (by omega)]; rfl
          have q2 : (es.map nT)[k + 1]? = some (nT (es.getD (k + 1) 0)) := by rw [List.getElem?_map, List.getD_eq_getElem?_getD, List.getElem?_eq_getElem (by omega)]; rfl
          have e1 : (k : Int) + 1 = ((k + 1 : Nat) : Int) := by simp
          generalize es.getD k 0 = x at q1
          generalize es.getD (k + 1) 0 = y at q2
          clear g1 g2
          repeat' decreasing_trivial_pre_omega
          refine ⟨?_, rfl⟩
          show PyData.bool (decide ((x : Int) < (y : Int))) = _
          rw [show decide ((x : Int) < (y : Int)) = decide (x < y) from decide_eq_decide.mpr (by omega)]
        · generalize ascL es = k at g2 ⊢
          repeat' decreasing_trivial_pre_omega
          cases k with
          | true =>
            rw [if_pos rfl]
            repeat' decreasing_trivial_pre_omega
            exact ⟨rfl, rfl⟩
          | false =>
            rw [if_neg (by simp)]
            repeat' decreasing_trivial_pre_omega
            exact ⟨rfl, rfl⟩

set_option linter.all false
set_option maxRecDepth 100000
set_option maxHeartbeats 4000000
open PySem PySem.Spec Ev Pu Mt Wp
/-! ### makes -/
def turnB : List Nat → Bool
  | [w, m, b] => decide (w < 4) && (decide (m < 2) && decide (b < 2))
  | _ => false
def makeB (ls : List (List Nat)) : Bool := (decide (ls.length = 4) || decide (ls.length = 9)) && ls.all turnB
def makeIn (a : Str) : Option (List (List Nat)) := (rowsIn a).bind fun ls => if makeB ls = true then some ls else none
theorem isI_n (n k : Nat) : m_is_index [.v (nT n), .v (nT k)] = .ok (.r (.bool (decide (n < k)))) [.v (nT n), .v (nT k)] := by
  rw [show nT k = PyData.int (k : Int) from rfl, is_index_ok]
  show Out.ok (Od.r (.bool (decide (0 ≤ (n : Int) ∧ (n : Int) < (k : Int))))) _ = _
  rw [show decide (0 ≤ (n : Int) ∧ (n : Int) < (k : Int)) = decide (n < k) from decide_eq_decide.mpr (by omega)]
theorem is_posture_w (w m : Nat) : m_is_posture [.v (.tuple [nT w, nT m])] = .ok (.r (.bool (decide (w < 4) && decide (m < 2)))) [.v (.tuple [nT w, nT m])] := by
  have p1 := isI_n w 4
  have p2 := isI_n m 2
  generalize decide (w < 4) = b1 at p1 ⊢
  generalize decide (m < 2) = b2 at p2 ⊢
  rw [show nT 4 = PyData.int 4 from rfl] at p1
  rw [show nT 2 = PyData.int 2 from rfl] at p2
  refine w_eq ?_
  unfold m_is_posture
  (apply Wp.w_fun; (focus (rfl; done)); (focus (((try simp only [List.cons_append, List.nil_append, List.length_cons, List.length_nil, Nat.reduceAdd, Nat.reduceSub, Nat.zero_add, Nat.sub_zero, List.replicate_succ, List.replicate_zero, List.append_nil]); rfl); done)))
  unfold b_is_posture
  repeat' decreasing_trivial_pre_omega
  refine w_of p1 ?_
  clear p1
  cases b1 with
  | false =>
    repeat' decreasing_trivial_pre_omega
    exact ⟨rfl, rfl⟩
  | true =>
    repeat' decreasing_trivial_pre_omega
    refine w_of p2 ?_
    clear p2
    repeat' decreasing_trivial_pre_omega
    exact ⟨rfl, rfl⟩
theorem is_turn_w (w m b : Nat) : m_is_turn [.v (tuT [w, m, b])] = .ok (.r (.bool (turnB [w, m, b]))) [.v (tuT [w, m, b])] := by
  rw [show turnB [w, m, b] = (decide (w < 4) && (decide (m < 2) && decide (b < 2))) from rfl]
  have p1 := is_posture_w w m
  have p2 := isI_n b 2
  rw [show nT 2 = PyData.int 2 from rfl] at p2
  rw [← Bool.and_assoc]
  generalize (decide (w < 4) && decide (m < 2)) = b1 at p1 ⊢
  generalize decide (b < 2) = b2 at p2 ⊢
  have c1 : cutT [nT w, nT m, nT b] none (some 2) = [nT w, nT m] := rfl
  refine w_eq ?_
  unfold m_is_turn
  (apply Wp.w_fun; (focus (rfl; done)); (focus (((try simp only [List.cons_append, List.nil_append, List.length_cons, List.length_nil, Nat.reduceAdd, Nat.reduceSub, Nat.zero_add, Nat.sub_zero, List.replicate_succ, List.replicate_zero, List.append_nil]); rfl); done)))
  unfold b_is_turn tuT
  repeat' decreasing_trivial_pre_omega
  refine w_of p1 ?_
  clear p1
  cases b1 with
  | false =>
    repeat' decreasing_trivial_pre_omega
    exact ⟨rfl, rfl⟩
  | true =>
    repeat' decreasing_trivial_pre_omega
    refine w_of p2 ?_
    clear p2
    repeat' decreasing_trivial_pre_omega
    exact ⟨rfl, rfl⟩
theorem rowsIn_len {a : Str} {ls : List (List Nat)} (h : rowsIn a = some ls) : ∀ l ∈ ls, l.length = 3 := fun l hl => by
  obtain ⟨p, _, e⟩ := List.mem_map.mp (allO_mem h l hl)
  exact intsIn_len e
theorem allO_len {α : Type} : ∀ {os : List (Option α)} {l : List α}, allO os = some l → l.length = os.length
  | [], l, h => by cases h; rfl
  | none :: _, l, h => by cases h
  | some a :: os, l, h => by
    rw [allO] at h
    cases q : allO os with
    | none => rw [q] at h; cases h
    | some l' => rw [q] at h; cases h; rw [List.length_cons, List.length_cons, allO_len q]
theorem rowsIn_few {a : Str} (ha : Tx a) {ls : List (List Nat)} (h : rowsIn a = some ls) : ls.length ≤ sizeLine := by
  have := allO_len h
  rw [List.length_map] at this
  have := (spl_tx ha l_cm).fits ha
  omega
theorem in49 (k : Bool → Bool) (n : Nat) : gIn k (.int (n : Int)) (.tuple [.int 4, .int 9]) = some (.r (.bool (k (decide (n = 4) || decide (n = 9))))) := by
  have := gIn2 k 4 9 (n : Int)
  rw [this, show decide ((4 : Int) = (n : Int)) = decide (n = 4) from decide_eq_decide.mpr (by omega), show decide ((9 : Int) = (n : Int)) = decide (n = 9) from decide_eq_decide.mpr (by omega)]
theorem told_make {a : Str} (h : Tx a) : m__told_make [.v (.str a)] = .ok (.r (rsT (makeIn a))) [.v (.str a)] := by
  have t := told_rows h
  have hlen := fun ls (q : rowsIn a = some ls) => rowsIn_len q
  have hfew := fun ls (q : rowsIn a = some ls) => rowsIn_few h q
  unfold makeIn
  generalize rowsIn a = o at *
  refine w_eq ?_
  unfold m__told_make
  (apply Wp.w_fun; (focus (rfl; done)); (focus (((try simp only [List.cons_append, List.nil_append, List.length_cons, List.length_nil, Nat.reduceAdd, Nat.reduceSub, Nat.zero_add, Nat.sub_zero, List.replicate_succ, List.replicate_zero, List.append_nil]); rfl); done)))
  unfold b__told_make x1__told_make
  repeat' decreasing_trivial_pre_omega
  refine w_of t ?_
  clear t
  cases o with
  | none =>
    repeat' decreasing_trivial_pre_omega
    exact ⟨rfl, rfl⟩
  | some ls =>
    rw [Option.bind_some]
    have hl := hlen ls rfl
    have hf := hfew ls rfl
    clear hlen hfew
    have i1 := in49 not ls.length
    have g := all_bs turnB ls
    unfold makeB
    generalize (decide (ls.length = 4) || decide (ls.length = 9)) = b1 at i1 ⊢
    generalize ls.all turnB = b2 at g ⊢
    have hlm : (ls.map tuT).length = ls.length := List.length_map ..
    show KBack _ _ _ (Od.r (.tuple (ls.map tuT))) _
    rw [← hlm] at i1
    repeat' decreasing_trivial_pre_omega
    cases b1 with
    | false =>
      repeat' decreasing_trivial_pre_omega
      exact ⟨rfl, rfl⟩
    | true =>
      repeat' decreasing_trivial_pre_omega
      refine comp_map_w tuT (fun l => PyData.bool (turnB l)) ls hf (fun l hl' => ⟨_, rfl, ?_⟩) ?_
      · clear g i1
        match l, hl l hl' with
        | [w, m, b], _ =>
        have tt := is_turn_w w m b
        repeat' decreasing_trivial_pre_omega
        refine w_of tt ?_
        clear tt
        repeat' decreasing_trivial_pre_omega
        exact ⟨rfl, rfl⟩
      · cases b2 with
        | false =>
          repeat' decreasing_trivial_pre_omega
          exact ⟨rfl, rfl⟩
        | true =>
          repeat' decreasing_trivial_pre_omega
          exact ⟨rfl, rfl⟩

set_option linter.all false
set_option maxRecDepth 100000
set_option maxHeartbeats 4000000
open PySem PySem.Spec Ev Pu Mt Wp
theorem found0 {a : Str} (h : Tx a) : W (m__law_found [.v (nT 0), .v (.str a)]) fun r e => r = .b (.l (((intsIn (Txt.split a " ") 2).map tuT).toList)) ∧ e = [.v (nT 0), .v (.str a)] := by
  have t := law_ints h l_sp 2
  unfold m__law_found
  (apply Wp.w_fun; (focus (rfl; done)); (focus (((try simp only [List.cons_append, List.nil_append, List.length_cons, List.length_nil, Nat.reduceAdd, Nat.reduceSub, Nat.zero_add, Nat.sub_zero, List.replicate_succ, List.replicate_zero, List.append_nil]); rfl); done)))
  unfold b__law_found
  repeat' decreasing_trivial_pre_omega
  refine w_imp t ?_
  rintro _ _ ⟨rfl, rfl⟩
  clear t
  repeat' decreasing_trivial_pre_omega
  exact ⟨rfl, rfl⟩
theorem found1 {a : Str} (h : Tx a) : W (m__law_found [.v (nT 1), .v (.str a)]) fun r e => r = .b (.l (((boxIn a).map tuT).toList)) ∧ e = [.v (nT 1), .v (.str a)] := by
  have t := law_ints h l_sp 4
  have hlen := fun l (q : intsIn (Txt.split a " ") 4 = some l) => intsIn_len q
  unfold boxIn
  generalize intsIn (Txt.split a " ") 4 = o at *
  unfold m__law_found
  (apply Wp.w_fun; (focus (rfl; done)); (focus (((try simp only [List.cons_append, List.nil_append, List.length_cons, List.length_nil, Nat.reduceAdd, Nat.reduceSub, Nat.zero_add, Nat.sub_zero, List.replicate_succ, List.replicate_zero, List.append_nil]); rfl); done)))
  unfold b__law_found
  repeat' decreasing_trivial_pre_omega
  refine w_imp t ?_
  rintro _ _ ⟨rfl, rfl⟩
  clear t
  cases o with
  | none =>
    have q : gEq not (.list []) (.list []) = some (.r (.bool false)) := rfl
    repeat' decreasing_trivial_pre_omega
    exact ⟨rfl, rfl⟩
  | some l =>
    have q : gEq not (.list [tuT l]) (.list []) = some (.r (.bool true)) := gEq_nl not (n := 1) (by decide) (fun x hx => by
      rw [List.mem_singleton.mp hx]; exact sh_tu l)
    match l, hlen l rfl with
    | [p, r, s, t], _ =>
    clear hlen
    rw [Option.bind_some, show boxB [p, r, s, t] = (decide (p < s) && decide (r < t)) from rfl]
    unfold tuT at *
    repeat' decreasing_trivial_pre_omega
    by_cases h1 : p < s
    · refine kand_t (decide_eq_true (by omega)) ?_
      rw [decide_eq_true h1, Bool.true_and]
      repeat' decreasing_trivial_pre_omega
      by_cases h2 : r < t
      · refine kife_t (decide_eq_true (by omega)) ?_
        rw [decide_eq_true h2, if_pos rfl]
        repeat' decreasing_trivial_pre_omega
        exact ⟨rfl, rfl⟩
      · refine kife_f (decide_eq_false (by omega)) ?_
        rw [decide_eq_false h2, if_neg (by simp)]
        repeat' decreasing_trivial_pre_omega
        exact ⟨rfl, rfl⟩
    · refine kand_f (decide_eq_false (by omega)) ?_
      rw [decide_eq_false h1, Bool.false_and, if_neg (by simp)]
      repeat' decreasing_trivial_pre_omega
      exact ⟨rfl, rfl⟩
theorem found3 {a : Str} (h : Tx a) : W (m__law_found [.v (nT 3), .v (.str a)]) fun r e => r = .b (.l (((makeIn a).map rwT).toList)) ∧ e = [.v (nT 3), .v (.str a)] := by
  have t := law_rows h
  have hlen := fun ls (q : rowsIn a = some ls) => rowsIn_len q
  have hfew := fun ls (q : rowsIn a = some ls) => rowsIn_few h q
  unfold makeIn
  generalize rowsIn a = o at *
  unfold m__law_found
  (apply Wp.w_fun; (focus (rfl; done)); (focus (((try simp only [List.cons_append, List.nil_append, List.length_cons, List.length_nil, Nat.reduceAdd, Nat.reduceSub, Nat.zero_add, Nat.sub_zero, List.replicate_succ, List.replicate_zero, List.append_nil]); rfl); done)))
  unfold b__law_found
  repeat' decreasing_trivial_pre_omega
  refine w_imp t ?_
  rintro _ _ ⟨rfl, rfl⟩
  clear t
  cases o with
  | none =>
    have q : gEq id (.list []) (.list []) = some (.r (.bool true)) := rfl
    repeat' decreasing_trivial_pre_omega
    exact ⟨rfl, rfl⟩
  | some ls =>
    have q : gEq id (.list [rwT ls]) (.list []) = some (.r (.bool false)) := gEq_nl id (n := 2) (by decide) (fun x hx => by
      rw [List.mem_singleton.mp hx]; exact .tup fun z hz => by obtain ⟨l, _, rfl⟩ := List.mem_map.mp hz; exact sh_tu l)
    have hl := hlen ls rfl
    have hf := hfew ls rfl
    clear hlen hfew
    rw [Option.bind_some]
    have hlm : (ls.map tuT).length = ls.length := List.length_map ..
    have i1 : gIn not (.int ((ls.map tuT).length : Int)) (.tuple [.int 4, .int 9]) = some (.r (.bool (!(decide (ls.length = 4) || decide (ls.length = 9))))) := by rw [hlm]; exact in49 not ls.length
    unfold rwT at *
    unfold makeB
    generalize (decide (ls.length = 4) || decide (ls.length = 9)) = b1 at i1 ⊢
    repeat' decreasing_trivial_pre_omega
    cases b1 with
    | false =>
      repeat' decreasing_trivial_pre_omega
      exact ⟨rfl, rfl⟩
    | true =>
      repeat' decreasing_trivial_pre_omega
      unfold x2__law_found
      repeat' decreasing_trivial_pre_omega
      refine comp_filter_w tuT (fun _ => PyData.int 1) (fun l => !turnB l) ls hf (fun l hl' => ?_) ?_
      · match l, hl l hl' with
        | [w, m, b], _ =>
        refine ⟨[.v (nT 3), .v (.str a), .ow false (.l [.tuple (ls.map tuT)]), .un, .un, .un, .un, .v (nT w), .v (nT m), .v (nT b)], ?_, ?_⟩
        · unfold tuT
          (first | rfl | (repeat' (first | refine Wp.gN_ok (by first | rfl | exact Wp.isLent_of rfl (by assumption)) rfl | refine Wp.gsNil_ok rfl | with_reducible apply Wp.gsCons_ok | apply Wp.gT_ok rfl)))
        · clear i1 q
          rw [show turnB [w, m, b] = (decide (w < 4) && (decide (m < 2) && decide (b < 2))) from rfl]
          repeat' decreasing_trivial_pre_omega
          by_cases h1 : w < 4
          · refine kor_f (decide_eq_false (by omega)) ?_
            rw [decide_eq_true h1, Bool.true_and]
            repeat' decreasing_trivial_pre_omega
            by_cases h2 : m < 2
            · refine kor_f (decide_eq_false (by omega)) ?_
              rw [decide_eq_true h2, Bool.true_and]
              repeat' decreasing_trivial_pre_omega
              refine ⟨?_, fun _ => rfl, fun _ => ?_⟩
              · by_cases h3 : b < 2
                · rw [decide_eq_true h3, decide_eq_false (by omega)]; rfl
                · rw [decide_eq_false h3, decide_eq_true (by omega)]; rfl
              · repeat' decreasing_trivial_pre_omega
                exact ⟨rfl, rfl⟩
            · refine kor_t (decide_eq_true (by omega)) ?_
              rw [decide_eq_false h2, Bool.false_and]
              refine ⟨rfl, fun z => (by cases z), fun _ => ?_⟩
              repeat' decreasing_trivial_pre_omega
              exact ⟨rfl, rfl⟩
          · refine kor_t (decide_eq_true (by omega)) ?_
            rw [decide_eq_false h1, Bool.false_and]
            refine ⟨rfl, fun z => (by cases z), fun _ => ?_⟩
            repeat' decreasing_trivial_pre_omega
            exact ⟨rfl, rfl⟩
      · have q2 := gEq_nl id (n := 0) (by decide) (xs := (ls.filter fun l => !turnB l).map fun _ => PyData.int 1) (fun x hx => by
          obtain ⟨_, _, rfl⟩ := List.mem_map.mp hx; exact .int 0 1)
        have hem : ((ls.filter fun l => !turnB l).map fun _ => PyData.int 1).isEmpty = ls.all turnB := by
          rw [List.isEmpty_map]
          clear hl hf i1 q hlm q2
          induction ls with
          | nil => rfl
          | cons c l ih =>
            rw [List.filter_cons, List.all_cons, ← ih]
            cases turnB c <;> simp
        rw [hem] at q2
        clear hem i1 q
        generalize ((ls.filter fun l => !turnB l).map fun _ => PyData.int 1) = xs at q2
        generalize ls.all turnB = k at q2 ⊢
        repeat' decreasing_trivial_pre_omega
        cases k with
        | true =>
          repeat' decreasing_trivial_pre_omega
          exact ⟨rfl, rfl⟩
        | false =>
          repeat' decreasing_trivial_pre_omega
          exact ⟨rfl, rfl⟩

set_option linter.all false
set_option maxRecDepth 100000
set_option maxHeartbeats 4000000
open PySem PySem.Spec Ev Pu Mt Wp
def lawS : Int → List (List Nat) → Bool
  | _, [] => true
  | last, l :: ls => match l with
    | [a, b] => decide (last < (a : Int)) && (decide (a < b) && lawS b ls)
    | _ => false
theorem lawS_asc : ∀ (ls : List (List Nat)) (m : Nat), (∀ l ∈ ls, l.length = 2) → lawS (m : Int) ls = ascL (m :: ls.flatten)
  | [], m, _ => rfl
  | l :: ls, m, h => by
    match l, h l List.mem_cons_self with
    | [a, b], _ =>
    have ih := lawS_asc ls b fun l hl => h l (List.mem_cons_of_mem _ hl)
    show (decide ((m : Int) < (a : Int)) && (decide (a < b) && lawS b ls)) = ascL (m :: a :: b :: ls.flatten)
    rw [ih, show decide ((m : Int) < (a : Int)) = decide (m < a) from decide_eq_decide.mpr (by omega)]
    rfl
theorem lawS_neg (ls : List (List Nat)) (h : ∀ l ∈ ls, l.length = 2) : lawS (-1) ls = ascL ls.flatten := by
  cases ls with
  | nil => rfl
  | cons l ls =>
    match l, h l List.mem_cons_self with
    | [a, b], _ =>
    have ih := lawS_asc ls b fun l hl => h l (List.mem_cons_of_mem _ hl)
    show (decide ((-1 : Int) < (a : Int)) && (decide (a < b) && lawS b ls)) = ascL (a :: b :: ls.flatten)
    rw [ih, decide_eq_true (by omega), Bool.true_and]
    rfl
theorem found2 {a : Str} (h : Tx a) : W (m__law_found [.v (nT 2), .v (.str a)]) fun r e => r = .b (.l (((spansIn a).map rwT).toList)) ∧ e = [.v (nT 2), .v (.str a)] := by
  have s := spl_tx h l_sp
  have sf := s.f
  have hl := s.fits h
  have htx := s.tx
  clear s
  unfold spansIn
  generalize Txt.split a " " = ps at *
  unfold m__law_found
  (apply Wp.w_fun; (focus (rfl; done)); (focus (((try simp only [List.cons_append, List.nil_append, List.length_cons, List.length_nil, Nat.reduceAdd, Nat.reduceSub, Nat.zero_add, Nat.sub_zero, List.replicate_succ, List.replicate_zero, List.append_nil]); rfl); done)))
  unfold b__law_found x1__law_found
  repeat' decreasing_trivial_pre_omega
  refine comp_map_w PyData.str (fun p => liT ((intsIn (Txt.split p "-") 2).map tuT)) ps hl (fun p hp => ⟨_, rfl, ?_⟩) ?_
  · have t := law_ints (htx p hp).1 l_da 2
    clear htx sf
    repeat' decreasing_trivial_pre_omega
    refine w_imp t ?_
    rintro _ _ ⟨rfl, rfl⟩
    clear t
    unfold liT
    repeat' decreasing_trivial_pre_omega
    exact ⟨rfl, rfl⟩
  · have e1 : (ps.map fun p => liT ((intsIn (Txt.split p "-") 2).map tuT)) = ((ps.map fun p => intsIn (Txt.split p "-") 2).map (Option.map tuT)).map liT := by rw [List.map_map, List.map_map]; rfl
    have ai := all_in (n := 1) (by decide) ((ps.map fun p => intsIn (Txt.split p "-") 2).map (Option.map tuT)) (fun t ht => by
      obtain ⟨o, _, e⟩ := List.mem_map.mp ht
      cases o with
      | none => cases e
      | some n => cases e; exact sh_tu n) (by rw [List.length_map, List.length_map]; exact hl)
    have e2 : alT ((ps.map fun p => intsIn (Txt.split p "-") 2).map (Option.map tuT)) = ((allO (ps.map fun p => intsIn (Txt.split p "-") 2)).map rwT).toList := by
      unfold alT
      rw [allO_map, Option.map_map]
      rfl
    rw [e2] at ai
    rw [e1]
    have hlen : ∀ ls, allO (ps.map fun p => intsIn (Txt.split p "-") 2) = some ls → ∀ l ∈ ls, l.length = 2 := fun ls q l hl => by
      obtain ⟨p, _, e⟩ := List.mem_map.mp (allO_mem q l hl)
      exact intsIn_len e
    generalize ((ps.map fun p => intsIn (Txt.split p "-") 2).map (Option.map tuT)).map liT = xs at ai ⊢
    generalize allO (ps.map fun p => intsIn (Txt.split p "-") 2) = o at ai hlen ⊢
    clear e1 e2 htx sf hl
    repeat' decreasing_trivial_pre_omega
    refine w_imp ai ?_
    rintro _ _ ⟨rfl, s, rfl, hs⟩
    clear ai
    unfold l1__law_found y1__law_found
    cases o with
    | none =>
      have q : gEq not (.list []) (.list []) = some (.r (.bool false)) := rfl
      repeat' decreasing_trivial_pre_omega
      refine for_on_w (fun (x : T) => x) [] (fun don e => e = [.v (nT 2), .v (.str a), .ow false (.l []), .v (.int (-1)), .un, .un, .un, .un, .un, .un]) rfl ?_ ?_
      · intro don x rest hd
        exact absurd hd (by simp)
      · rintro e rfl
        repeat' decreasing_trivial_pre_omega
        exact ⟨rfl, rfl⟩
    | some ls =>
      have q : gEq not (.list [rwT ls]) (.list []) = some (.r (.bool true)) := gEq_nl not (n := 2) (by decide) (fun x hx => by
        rw [List.mem_singleton.mp hx]; exact .tup fun z hz => by obtain ⟨l, _, rfl⟩ := List.mem_map.mp hz; exact sh_tu l)
      have hl := hlen ls rfl
      clear hlen
      rw [Option.bind_some, ← lawS_neg ls hl]
      unfold rwT at *
      repeat' decreasing_trivial_pre_omega
      refine for_on_w tuT ls (fun don e => ∃ (last : Int) (l4 l5 : Sl), (lentS l4 = false ∧ lentS l5 = false) ∧ (∀ rest, ls = don ++ rest → lawS (-1) ls = lawS last rest) ∧ e = [.v (nT 2), .v (.str a), .ow false (.l [.tuple (ls.map tuT)]), .v (.int last), l4, l5, .un, .un, .un, .un]) ⟨-1, .un, .un, ⟨rfl, rfl⟩, fun rest hr => by rw [hr]; rfl, rfl⟩ ?_ ?_
      · rintro don l rest hd e ⟨last, l4, l5, ⟨a4, a5⟩, hq, rfl⟩
        have hq2 := hq _ hd
        match l, hl l (by rw [hd]; simp) with
        | [p, r], _ =>
        refine ⟨[.v (nT 2), .v (.str a), .ow false (.l [.tuple (ls.map tuT)]), .v (.int last), .v (nT p), .v (nT r), .un, .un, .un, .un], ?_, ?_⟩
        · show gT 2 _ (.tuple [nT p, nT r]) _ = _
          (first | rfl | (repeat' (first | refine Wp.gN_ok (by first | rfl | exact Wp.isLent_of rfl (by assumption)) rfl | refine Wp.gsNil_ok rfl | with_reducible apply Wp.gsCons_ok | apply Wp.gT_ok rfl)))
        · clear q
          have hq3 : lawS (-1) ls = (decide (last < (p : Int)) && (decide (p < r) && lawS r rest)) := hq2
          repeat' decreasing_trivial_pre_omega
          by_cases h1 : last < (p : Int)
          · refine kor_f (decide_eq_false (by omega)) ?_
            repeat' decreasing_trivial_pre_omega
            by_cases h2 : p < r
            · refine kif_f (decide_eq_false (by omega)) ?_
              repeat' decreasing_trivial_pre_omega
              refine ⟨(r : Int), .v (nT p), .v (nT r), ⟨rfl, rfl⟩, fun rest' hr => ?_, rfl⟩
              have er : rest' = rest := by
                rw [hd] at hr
                simpa using hr.symm
              rw [er, hq3, decide_eq_true h1, decide_eq_true h2, Bool.true_and, Bool.true_and]
            · refine kif_t (decide_eq_true (by omega)) ?_
              rw [hq3, decide_eq_true h1, decide_eq_false h2]
              repeat' decreasing_trivial_pre_omega
              exact ⟨rfl, rfl⟩
          · refine kor_t (decide_eq_true (by omega)) ?_
            rw [hq3, decide_eq_false h1]
            repeat' decreasing_trivial_pre_omega
            exact ⟨rfl, rfl⟩
      · rintro e ⟨last, l4, l5, ⟨a4, a5⟩, hq, rfl⟩
        have hq2 := hq [] (by simp)
        rw [hq2]
        clear q
        repeat' decreasing_trivial_pre_omega
        exact ⟨rfl, rfl⟩
def foundIn (d : Nat) (a : Str) : Option T := match d with
  | 0 => (intsIn (Txt.split a " ") 2).map tuT
  | 1 => (boxIn a).map tuT
  | 2 => (spansIn a).map rwT
  | _ => (makeIn a).map rwT
theorem law_found {d : Nat} (hd : d < 4) {a : Str} (h : Tx a) : W (m__law_found [.v (nT d), .v (.str a)]) fun r e => r = .b (.l (foundIn d a).toList) ∧ e = [.v (nT d), .v (.str a)] := by
  match d, hd with
  | 0, _ => exact found0 h
  | 1, _ => exact found1 h
  | 2, _ => exact found2 h
  | 3, _ => exact found3 h
  | d + 4, hd => omega
theorem found_sh {d : Nat} {a : Str} {t : T} (h : foundIn d a = some t) : Sh 2 t ∧ ∃ ts, t = .tuple ts := by
  have t1 : ∀ {o : Option (List Nat)}, o.map tuT = some t → Sh 2 t ∧ ∃ ts, t = .tuple ts := fun {o} e => by
    cases o with
    | none => cases e
    | some l => cases e; exact ⟨.tup fun z hz => by obtain ⟨n, _, rfl⟩ := List.mem_map.mp hz; exact .int 1 _, _, rfl⟩
  have t2 : ∀ {o : Option (List (List Nat))}, o.map rwT = some t → Sh 2 t ∧ ∃ ts, t = .tuple ts := fun {o} e => by
    cases o with
    | none => cases e
    | some l => cases e; exact ⟨.tup fun z hz => by obtain ⟨l, _, rfl⟩ := List.mem_map.mp hz; exact sh_tu l, _, rfl⟩
  match d with
  | 0 => exact t1 h
  | 1 => exact t1 h
  | 2 => exact t2 h
  | d + 3 => exact t2 h

set_option linter.all false
set_option maxRecDepth 100000
set_option maxHeartbeats 4000000
open PySem PySem.Spec Ev Pu Mt Wp
/-! ### the first line, what is more -/
def fl (a : Str) : Str := (Txt.split a "\n").headD a
def nlB (a : Str) : Bool := decide (10 ∈ tl a)
theorem fl_ix {a : Str} (h : Tx a) : gIx (.list ((Txt.split a "\n").map PyData.str)) (.int 0) = some (.r (.str (fl a))) ∧ Tx (fl a) := by
  have s := spl_tx h l_nl
  have ne := s.ne
  have tx := s.tx
  unfold fl
  cases q : Txt.split a "\n" with
  | nil => exact absurd q ne
  | cons p ps => rw [q] at tx; exact ⟨gIx_l (k := 0) rfl, (tx p List.mem_cons_self).1⟩
theorem first_line {a : Str} (h : Tx a) : m__first_line [.v (.str a)] = .ok (.r (.str (fl a))) [.v (.str a)] := by
  have sf := (spl_tx h l_nl).f
  have q := (fl_ix h).1
  generalize Txt.split a "\n" = ps at sf q
  generalize fl a = y at q
  refine w_eq ?_
  unfold m__first_line
  (apply Wp.w_fun; (focus (rfl; done)); (focus (((try simp only [List.cons_append, List.nil_append, List.length_cons, List.length_nil, Nat.reduceAdd, Nat.reduceSub, Nat.zero_add, Nat.sub_zero, List.replicate_succ, List.replicate_zero, List.append_nil]); rfl); done)))
  unfold b__first_line
  repeat' decreasing_trivial_pre_omega
  exact ⟨rfl, rfl⟩
theorem nl_in (a : Str) : gInS (.str "\n") (.str a) = some (.r (.bool (nlB a))) := by
  have e : (("\n" : Str).cps.toList) = [10] := tl_nl
  simp only [gInS, e]
  rfl
def opT (o : Option T) : T := o.getD .none
abbrev UR : Str := "Unreadable"
structure RS (m : FSem) (ss : List Sl) (o : Option T) (b : Bool) : Prop where
  x1 : o = none → Wx (m ss) UR (.int 1) fun e => e = ss
  x2 : ∀ t, o = some t → b = true → Wx (m ss) UR (.int 2) fun e => e = ss
  ok : ∀ t, o = some t → b = false → m ss = .ok (.r t) ss
theorem alone_rs (a : Str) (o : Option T) (ho : ∀ t, o = some t → ∃ ts, t = .tuple ts) : RS m__alone [.v (.str a), .v (opT o)] o (nlB a) := by
  have g := nl_in a
  generalize nlB a = b at g ⊢
  refine ⟨fun e => ?_, fun t e hb => ?_, fun t e hb => ?_⟩
  · subst e
    unfold m__alone
    refine wx_fun (e0 := [.v (.str a), .v .none]) rfl rfl ?_
    unfold b__alone
    refine wx_seq1 (wx_if_t ?_)
    repeat' decreasing_trivial_pre_omega
    refine ⟨rfl, wx_raise ?_⟩
    repeat' decreasing_trivial_pre_omega
    exact ⟨rfl, rfl⟩
  · subst hb
    obtain ⟨ts, rfl⟩ := ho t e
    subst e
    unfold m__alone
    refine wx_fun (e0 := [.v (.str a), .v (.tuple ts)]) rfl rfl ?_
    unfold b__alone
    show Wx _ _ _ fun e' => finE [.v (.str a), .v (.tuple ts)] e' = [.v (.str a), .v (.tuple ts)]
    refine wx_seq2 ?_
    repeat' decreasing_trivial_pre_omega
    refine ⟨rfl, wx_seq1 (wx_if_t ?_)⟩
    repeat' decreasing_trivial_pre_omega
    refine ⟨rfl, wx_raise ?_⟩
    repeat' decreasing_trivial_pre_omega
    exact ⟨rfl, rfl⟩
  · subst hb
    obtain ⟨ts, rfl⟩ := ho t e
    subst e
    show m__alone [.v (.str a), .v (.tuple ts)] = .ok (.r (.tuple ts)) [.v (.str a), .v (.tuple ts)]
    refine w_eq ?_
    unfold m__alone
    (apply Wp.w_fun; (focus (rfl; done)); (focus (((try simp only [List.cons_append, List.nil_append, List.length_cons, List.length_nil, Nat.reduceAdd, Nat.reduceSub, Nat.zero_add, Nat.sub_zero, List.replicate_succ, List.replicate_zero, List.append_nil]); rfl); done)))
    unfold b__alone
    repeat' decreasing_trivial_pre_omega
    exact ⟨rfl, rfl⟩
theorem reader_of {a : Str} {o : Option T} {mi : SemE} (hm : W (mi [.v (.str a)]) fun r e => r = .r (opT o) ∧ e = [.v (.str a)]) (ho : ∀ t, o = some t → ∃ ts, t = .tuple ts) :
    RS (runFn 1 (sRet (eCall 2 m__alone (aCons (eVar 0) (aCons mi aNil))))) [.v (.str a)] o (nlB a) := by
  have al := alone_rs a o ho
  refine ⟨fun e => ?_, fun t e hb => ?_, fun t e hb => ?_⟩
  · have q := al.x1 e
    clear al
    generalize opT o = p at *
    refine wx_fun (e0 := [.v (.str a)]) rfl rfl (wx_ret (wx_call ?_))
    repeat' decreasing_trivial_pre_omega
    refine w_imp hm ?_
    rintro _ _ ⟨rfl, rfl⟩
    repeat' decreasing_trivial_pre_omega
    exact xcall rfl rfl (of_decide_eq_true rfl) (wx_imp q (by rintro _ rfl; rfl))
  · have q := al.x2 t e hb
    clear al
    generalize opT o = p at *
    refine wx_fun (e0 := [.v (.str a)]) rfl rfl (wx_ret (wx_call ?_))
    repeat' decreasing_trivial_pre_omega
    refine w_imp hm ?_
    rintro _ _ ⟨rfl, rfl⟩
    repeat' decreasing_trivial_pre_omega
    exact xcall rfl rfl (of_decide_eq_true rfl) (wx_imp q (by rintro _ rfl; rfl))
  · have q := al.ok t e hb
    clear al
    generalize opT o = p at *
    refine w_eq ?_
    (apply Wp.w_fun; (focus (rfl; done)); (focus (((try simp only [List.cons_append, List.nil_append, List.length_cons, List.length_nil, Nat.reduceAdd, Nat.reduceSub, Nat.zero_add, Nat.sub_zero, List.replicate_succ, List.replicate_zero, List.append_nil]); rfl); done)))
    repeat' decreasing_trivial_pre_omega
    refine w_imp hm ?_
    rintro _ _ ⟨rfl, rfl⟩
    clear hm
    repeat' decreasing_trivial_pre_omega
    refine w_of q ?_
    clear q
    repeat' decreasing_trivial_pre_omega
    exact ⟨rfl, rfl⟩
theorem ro_p (o : Option (List Nat)) : roT o = opT (o.map tuT) := by cases o <;> rfl
theorem rs_p (o : Option (List (List Nat))) : rsT o = opT (o.map rwT) := by cases o <;> rfl
theorem tup_of {d : Nat} {a : Str} : ∀ t, foundIn d a = some t → ∃ ts, t = .tuple ts := fun t h => (found_sh h).2
theorem rd0 {a : Str} (h : Tx a) : RS m_read_cell [.v (.str a)] (foundIn 0 (fl a)) (nlB a) := by
  unfold m_read_cell b_read_cell
  refine reader_of ?_ tup_of
  have f1 := first_line h
  have tx := (fl_ix h).2
  generalize fl a = y at f1 tx ⊢
  have s := spl_tx tx l_sp
  have sf := s.f
  have t := told_ints (fun w hw => (s.tx w hw).1) (s.fits tx) 2
  rw [ro_p] at t
  clear s
  rw [show foundIn 0 y = (intsIn (Txt.split y " ") 2).map tuT from rfl]
  generalize opT ((intsIn (Txt.split y " ") 2).map tuT) = p at t ⊢
  generalize Txt.split y " " = ws at sf t
  repeat' decreasing_trivial_pre_omega
  refine w_of f1 ?_
  clear f1
  repeat' decreasing_trivial_pre_omega
  refine w_of t ?_
  clear t
  repeat' decreasing_trivial_pre_omega
  exact ⟨rfl, rfl⟩
theorem rd_in {a y : Str} {p : T} {m : FSem} (f1 : m__first_line [.v (.str a)] = .ok (.r (.str y)) [.v (.str a)]) (t : m [.v (.str y)] = .ok (.r p) [.v (.str y)]) :
    W (eCall 1 m (aCons (eCall 1 m__first_line (aCons (eVar 0) aNil)) aNil) [.v (.str a)]) fun r e => r = .r p ∧ e = [.v (.str a)] := by
  repeat' decreasing_trivial_pre_omega
  refine w_of f1 ?_
  clear f1
  repeat' decreasing_trivial_pre_omega
  refine w_of t ?_
  clear t
  repeat' decreasing_trivial_pre_omega
  exact ⟨rfl, rfl⟩
theorem rd1 {a : Str} (h : Tx a) : RS m_read_box [.v (.str a)] (foundIn 1 (fl a)) (nlB a) := by
  have t := told_box (fl_ix h).2
  rw [ro_p] at t
  exact reader_of (rd_in (first_line h) t) tup_of
theorem rd2 {a : Str} (h : Tx a) : RS m_read_spans [.v (.str a)] (foundIn 2 (fl a)) (nlB a) := by
  have t := told_spans (fl_ix h).2
  rw [rs_p] at t
  exact reader_of (rd_in (first_line h) t) tup_of
theorem rd3 {a : Str} (h : Tx a) : RS m_read_make [.v (.str a)] (foundIn 3 (fl a)) (nlB a) := by
  have t := told_make (fl_ix h).2
  rw [rs_p] at t
  exact reader_of (rd_in (first_line h) t) tup_of

set_option linter.all false
set_option maxRecDepth 100000
set_option maxHeartbeats 4000000
open PySem PySem.Spec Ev Pu Mt Wp
/-! ### the readers by their numbers -/
abbrev rdE (m : FSem) : SemE := eIf (tb (eVar 2)) (eCallK 1 [0] m (aCons (eVar 1) aNil)) (eCall 1 m (aCons (eVar 1) aNil))
theorem rd_x {m : FSem} {a : Str} {t u : T} (h : Wx (m [.v (.str a)]) UR t fun e => e = [.v (.str a)]) (n : Bool) : Wx (rdE m [.v u, .v (.str a), .v (.bool n)]) UR t fun e => e = [.v u, .v (.str a), .v (.bool n)] := by
  cases n with
  | true =>
    refine wx_eif_t ?_
    repeat' decreasing_trivial_pre_omega
    refine ⟨rfl, wx_callk ?_⟩
    repeat' decreasing_trivial_pre_omega
    exact xcallk (by decide) ⟨rfl, rfl⟩ rfl (of_decide_eq_true rfl) (wx_imp h (by rintro _ rfl; rfl))
  | false =>
    refine wx_eif_f ?_
    repeat' decreasing_trivial_pre_omega
    refine ⟨rfl, wx_call ?_⟩
    repeat' decreasing_trivial_pre_omega
    exact xcall rfl rfl (of_decide_eq_true rfl) (wx_imp h (by rintro _ rfl; rfl))
theorem rd_w {m : FSem} {a : Str} {t u : T} (h : m [.v (.str a)] = .ok (.r t) [.v (.str a)]) (n : Bool) : W (rdE m [.v u, .v (.str a), .v (.bool n)]) fun r e => r = .r t ∧ e = [.v u, .v (.str a), .v (.bool n)] := by
  cases n with
  | true =>
    repeat' decreasing_trivial_pre_omega
    refine w_of h ?_
    clear h
    repeat' decreasing_trivial_pre_omega
    exact ⟨rfl, rfl⟩
  | false =>
    repeat' decreasing_trivial_pre_omega
    refine w_of h ?_
    clear h
    repeat' decreasing_trivial_pre_omega
    exact ⟨rfl, rfl⟩
theorem rd_rs {m : FSem} {a : Str} {o : Option T} {b : Bool} (h : RS m [.v (.str a)] o b) (u : T) (n : Bool) :
    (o = none → Wx (rdE m [.v u, .v (.str a), .v (.bool n)]) UR (.int 1) fun e => e = [.v u, .v (.str a), .v (.bool n)]) ∧
    (∀ t, o = some t → b = true → Wx (rdE m [.v u, .v (.str a), .v (.bool n)]) UR (.int 2) fun e => e = [.v u, .v (.str a), .v (.bool n)]) ∧
    (∀ t, o = some t → b = false → W (rdE m [.v u, .v (.str a), .v (.bool n)]) fun r e => r = .r t ∧ e = [.v u, .v (.str a), .v (.bool n)]) :=
  ⟨fun e => rd_x (h.x1 e) n, fun t e hb => rd_x (h.x2 t e hb) n, fun t e hb => rd_w (h.ok t e hb) n⟩
abbrev arm (j : Int) (r : SemE) (rest : SemS) : SemS := sSeq (sIf (tb (eOp2 (gEq id) (eVar 0) (eK (.int j)))) (sRet r) sNil) rest
theorem arm_xt {j : Int} {d : Nat} {r : SemE} {rest : SemS} {s1 s2 : Sl} {t : T} {Q : En → Prop} (hj : (d : Int) = j) (h : Wx (r [.v (nT d), s1, s2]) UR t Q) : Wx (arm j r rest [.v (nT d), s1, s2]) UR t Q := by
  refine wx_seq1 (wx_if_t ?_)
  repeat' decreasing_trivial_pre_omega
  exact ⟨decide_eq_true hj, wx_ret h⟩
theorem arm_xf {j : Int} {d : Nat} {r : SemE} {rest : SemS} {s1 s2 : Sl} {t : T} {Q : En → Prop} (hj : (d : Int) ≠ j) (h : Wx (rest [.v (nT d), s1, s2]) UR t Q) : Wx (arm j r rest [.v (nT d), s1, s2]) UR t Q := by
  refine wx_seq2 ?_
  repeat' decreasing_trivial_pre_omega
  refine kif_f (decide_eq_false hj) ?_
  repeat' decreasing_trivial_pre_omega
  exact ⟨rfl, h⟩
theorem arm_t {j : Int} {d : Nat} {r : SemE} {rest : SemS} {s1 s2 : Sl} {t : T} (hj : (d : Int) = j) (h : W (r [.v (nT d), s1, s2]) fun r e => r = .r t ∧ e = [.v (nT d), s1, s2]) : W (arm j r rest [.v (nT d), s1, s2]) fun f e => f = .rt (.r t) ∧ e = [.v (nT d), s1, s2] := by
  repeat' decreasing_trivial_pre_omega
  refine kif_t (decide_eq_true hj) ?_
  repeat' decreasing_trivial_pre_omega
  refine w_imp h ?_
  rintro _ _ ⟨rfl, rfl⟩
  repeat' decreasing_trivial_pre_omega
  exact ⟨rfl, rfl⟩
theorem arm_f {j : Int} {d : Nat} {r : SemE} {rest : SemS} {s1 s2 : Sl} {Q : Fl → En → Prop} (hj : (d : Int) ≠ j) (h : W (rest [.v (nT d), s1, s2]) Q) : W (arm j r rest [.v (nT d), s1, s2]) Q := by
  repeat' decreasing_trivial_pre_omega
  refine kif_f (decide_eq_false hj) ?_
  repeat' decreasing_trivial_pre_omega
  exact h
theorem ret_w {r : SemE} {e0 : En} {t : T} (h : W (r e0) fun r e => r = .r t ∧ e = e0) : W (sRet r e0) fun f e => f = .rt (.r t) ∧ e = e0 := by
  refine w_ret (w_imp h ?_)
  rintro _ _ ⟨rfl, rfl⟩
  repeat' decreasing_trivial_pre_omega
  exact ⟨rfl, rfl⟩
theorem rs_of {b : SemS} {d : Nat} {a : Str} {n : Bool} {o : Option T} {k : Bool} (h1 : o = none → Wx (b [.v (nT d), .v (.str a), .v (.bool n)]) UR (.int 1) fun e => e = [.v (nT d), .v (.str a), .v (.bool n)])
    (h2 : ∀ t, o = some t → k = true → Wx (b [.v (nT d), .v (.str a), .v (.bool n)]) UR (.int 2) fun e => e = [.v (nT d), .v (.str a), .v (.bool n)])
    (h3 : ∀ t, o = some t → k = false → W (b [.v (nT d), .v (.str a), .v (.bool n)]) fun f e => f = .rt (.r t) ∧ e = [.v (nT d), .v (.str a), .v (.bool n)]) : RS (runFn 3 b) [.v (nT d), .v (.str a), .v (.bool n)] o k := by
  refine ⟨fun e => ?_, fun t e hb => ?_, fun t e hb => ?_⟩
  · exact wx_fun (e0 := [.v (nT d), .v (.str a), .v (.bool n)]) rfl rfl (wx_imp (h1 e) (by rintro _ rfl; rfl))
  · exact wx_fun (e0 := [.v (nT d), .v (.str a), .v (.bool n)]) rfl rfl (wx_imp (h2 t e hb) (by rintro _ rfl; rfl))
  · refine w_eq ?_
    (apply Wp.w_fun; (focus (rfl; done)); (focus (((try simp only [List.cons_append, List.nil_append, List.length_cons, List.length_nil, Nat.reduceAdd, Nat.reduceSub, Nat.zero_add, Nat.sub_zero, List.replicate_succ, List.replicate_zero, List.append_nil]); rfl); done)))
    refine w_imp (h3 t e hb) ?_
    rintro _ _ ⟨rfl, rfl⟩
    repeat' decreasing_trivial_pre_omega
    exact ⟨rfl, rfl⟩
theorem law_read {d : Nat} (hd : d < 4) {a : Str} (h : Tx a) (n : Bool) : RS m__law_read [.v (nT d), .v (.str a), .v (.bool n)] (foundIn d (fl a)) (nlB a) := by
  have q0 := rd0 h
  have q1 := rd1 h
  have q2 := rd2 h
  have q3 := rd3 h
  generalize nlB a = b at *
  unfold m__law_read b__law_read
  match d, hd with
  | 0, _ =>
    obtain ⟨x1, x2, ok⟩ := rd_rs q0 (nT 0) n
    exact rs_of (fun e => arm_xt rfl (x1 e)) (fun t e hb => arm_xt rfl (x2 t e hb)) (fun t e hb => arm_t rfl (ok t e hb))
  | 1, _ =>
    obtain ⟨x1, x2, ok⟩ := rd_rs q1 (nT 1) n
    exact rs_of (fun e => arm_xf (by decide) (arm_xt rfl (x1 e))) (fun t e hb => arm_xf (by decide) (arm_xt rfl (x2 t e hb))) (fun t e hb => arm_f (by decide) (arm_t rfl (ok t e hb)))
  | 2, _ =>
    obtain ⟨x1, x2, ok⟩ := rd_rs q2 (nT 2) n
    exact rs_of (fun e => arm_xf (by decide) (arm_xf (by decide) (arm_xt rfl (x1 e)))) (fun t e hb => arm_xf (by decide) (arm_xf (by decide) (arm_xt rfl (x2 t e hb)))) (fun t e hb => arm_f (by decide) (arm_f (by decide) (arm_t rfl (ok t e hb))))
  | 3, _ =>
    obtain ⟨x1, x2, ok⟩ := rd_rs q3 (nT 3) n
    exact rs_of (fun e => arm_xf (by decide) (arm_xf (by decide) (arm_xf (by decide) (wx_ret (x1 e))))) (fun t e hb => arm_xf (by decide) (arm_xf (by decide) (arm_xf (by decide) (wx_ret (x2 t e hb))))) (fun t e hb => arm_f (by decide) (arm_f (by decide) (arm_f (by decide) (ret_w (ok t e hb)))))
  | d + 4, hd => omega
/-! ### how a reader comes out -/
def dueT (d : Nat) (a : Str) : T := match foundIn d (fl a) with
  | none => .tuple [.str "refused", .int 1]
  | some t => if nlB a = true then .tuple [.str "refused", .int 2] else .tuple [.str "told", t]
theorem law_due {d : Nat} (hd : d < 4) {a : Str} (h : Tx a) : W (m__law_due [.v (nT d), .v (.str a)]) fun r e => r = .r (dueT d a) ∧ e = [.v (nT d), .v (.str a)] := by
  have sf := (spl_tx h l_nl).f
  obtain ⟨q, tx⟩ := fl_ix h
  have t := law_found hd tx
  have g := nl_in a
  have sh := fun t (e : foundIn d (fl a) = some t) => (found_sh e).1
  unfold dueT
  generalize Txt.split a "\n" = ps at sf q
  generalize foundIn d (fl a) = o at *
  generalize fl a = y at *
  generalize nlB a = b at *
  unfold m__law_due
  (apply Wp.w_fun; (focus (rfl; done)); (focus (((try simp only [List.cons_append, List.nil_append, List.length_cons, List.length_nil, Nat.reduceAdd, Nat.reduceSub, Nat.zero_add, Nat.sub_zero, List.replicate_succ, List.replicate_zero, List.append_nil]); rfl); done)))
  unfold b__law_due
  repeat' decreasing_trivial_pre_omega
  refine w_imp t ?_
  rintro _ _ ⟨rfl, rfl⟩
  clear t q sf
  cases o with
  | none =>
    have q : gEq id (.list []) (.list []) = some (.r (.bool true)) := rfl
    repeat' decreasing_trivial_pre_omega
    exact ⟨rfl, rfl⟩
  | some t =>
    have q : gEq id (.list [t]) (.list []) = some (.r (.bool false)) := gEq_nl id (n := 2) (by decide) (fun x hx => by rw [List.mem_singleton.mp hx]; exact sh t rfl)
    clear sh
    repeat' decreasing_trivial_pre_omega
    cases b with
    | true =>
      repeat' decreasing_trivial_pre_omega
      exact ⟨rfl, rfl⟩
    | false =>
      repeat' decreasing_trivial_pre_omega
      exact ⟨rfl, rfl⟩
theorem sub_u : subE "Unreadable" "Unreadable" = true := by decide +kernel
theorem hr_w {d : Nat} {a : Str} {n : Bool} {k : Int} {m2 : SemS} {Q : Fl → En → Prop} (q : Q .nx [.v (nT d), .v (.str a), .v (.bool n), .v (.str "refused"), .v (.int k), .un]) :
    W (hrun UR (.int k) [.v (nT d), .v (.str a), .v (.bool n), .v (.str "told"), .v .none, .un] [("Unreadable", some 5, sPut2 3 4 (.str "refused")), ("ThreadError", none, fun _ => m2)]) Q := by
  unfold hrun
  rw [if_pos sub_u]
  exact ⟨_, _, rfl, q⟩
theorem law_told {d : Nat} (hd : d < 4) {a : Str} (h : Tx a) (n : Bool) : W (m__law_told [.v (nT d), .v (.str a), .v (.bool n)]) fun r e => r = .r (dueT d a) ∧ e = [.v (nT d), .v (.str a), .v (.bool n)] := by
  obtain ⟨x1, x2, ok⟩ := law_read hd h n
  unfold dueT
  generalize foundIn d (fl a) = o at *
  generalize nlB a = b at *
  unfold m__law_told
  (apply Wp.w_fun; (focus (rfl; done)); (focus (((try simp only [List.cons_append, List.nil_append, List.length_cons, List.length_nil, Nat.reduceAdd, Nat.reduceSub, Nat.zero_add, Nat.sub_zero, List.replicate_succ, List.replicate_zero, List.append_nil]); rfl); done)))
  unfold b__law_told
  repeat' decreasing_trivial_pre_omega
  cases o with
  | none =>
    have q := x1 rfl
    clear x1 x2 ok
    refine w_try_x (by decide +kernel) (wx_set (wx_call (c := UR) (t := .int 1) ?_))
    repeat' decreasing_trivial_pre_omega
    refine xcall rfl rfl (of_decide_eq_true rfl) (wx_imp q ?_)
    rintro _ rfl
    refine hr_w ?_
    clear q
    repeat' decreasing_trivial_pre_omega
    exact ⟨rfl, rfl⟩
  | some t =>
    cases b with
    | true =>
      have q := x2 t rfl rfl
      clear x1 x2 ok
      refine w_try_x (by decide +kernel) (wx_set (wx_call (c := UR) (t := .int 2) ?_))
      repeat' decreasing_trivial_pre_omega
      refine xcall rfl rfl (of_decide_eq_true rfl) (wx_imp q ?_)
      rintro _ rfl
      refine hr_w ?_
      clear q
      repeat' decreasing_trivial_pre_omega
      exact ⟨rfl, rfl⟩
    | false =>
      have q := ok t rfl rfl
      clear x1 x2 ok
      refine w_try_ok ?_
      repeat' decreasing_trivial_pre_omega
      refine w_of q ?_
      clear q
      repeat' decreasing_trivial_pre_omega
      exact ⟨rfl, rfl⟩

set_option linter.all false
set_option maxRecDepth 100000
set_option maxHeartbeats 4000000
open PySem PySem.Spec Ev Pu Mt Wp
inductive Pz : Nat → T → Prop
  | int (n : Nat) (i : Int) : Pz n (.int i)
  | str (n : Nat) {x : Str} : PyData.strOk x = true → Pz n (.str x)
  | tup {n : Nat} {xs : List T} : (∀ x ∈ xs, Pz n x) → xs.length ≤ 5000000 → Pz (n + 1) (.tuple xs)
theorem same_z : ∀ (n : Nat) (t : T), Pz n t → ∀ fuel, n < fuel → m__law_same fuel [.v t, .v t] = .ok (.r (.bool true)) [.v t, .v t] := by
  intro n t h
  induction h with
  | int n i =>
    intro fuel hf
    obtain ⟨f, rfl⟩ : ∃ f, fuel = f + 1 := ⟨fuel - 1, by omega⟩
    refine w_eq ?_
    rw [m__law_same]
    (apply Wp.w_fun; (focus (rfl; done)); (focus (((try simp only [List.cons_append, List.nil_append, List.length_cons, List.length_nil, Nat.reduceAdd, Nat.reduceSub, Nat.zero_add, Nat.sub_zero, List.replicate_succ, List.replicate_zero, List.append_nil]); rfl); done)))
    repeat' decreasing_trivial_pre_omega
    exact ⟨by simp, rfl⟩
  | @str n y hy =>
    intro fuel hf
    obtain ⟨f, rfl⟩ : ∃ f, fuel = f + 1 := ⟨fuel - 1, by omega⟩
    have g := gEq_str id hy hy
    refine w_eq ?_
    rw [m__law_same]
    (apply Wp.w_fun; (focus (rfl; done)); (focus (((try simp only [List.cons_append, List.nil_append, List.length_cons, List.length_nil, Nat.reduceAdd, Nat.reduceSub, Nat.zero_add, Nat.sub_zero, List.replicate_succ, List.replicate_zero, List.append_nil]); rfl); done)))
    repeat' decreasing_trivial_pre_omega
    refine ⟨?_, rfl⟩
    show Od.r (.bool (y == y)) = _
    rw [beq_self_eq_true]
  | @tup n xs h hl ih =>
    intro fuel hf
    obtain ⟨f, rfl⟩ : ∃ f, fuel = f + 1 := ⟨fuel - 1, by omega⟩
    have g := all_tt (List.range xs.length)
    refine w_eq ?_
    rw [m__law_same]
    (apply Wp.w_fun; (focus (rfl; done)); (focus (((try simp only [List.cons_append, List.nil_append, List.length_cons, List.length_nil, Nat.reduceAdd, Nat.reduceSub, Nat.zero_add, Nat.sub_zero, List.replicate_succ, List.replicate_zero, List.append_nil]); rfl); done)))
    repeat' decreasing_trivial_pre_omega
    refine kande_t (by simp) ?_
    unfold x1__law_same
    repeat' decreasing_trivial_pre_omega
    refine kr1_eq xs.length rfl rfl (by omega) ?_
    unfold below
    refine comp_map_w (fun (k : Nat) => PyData.int (k : Int)) (fun _ => PyData.bool true) (List.range xs.length) (by rw [List.length_range]; unfold sizeLine; omega) (fun k hk => ⟨_, rfl, ?_⟩) ?_
    · have hk := List.mem_range.mp hk
      have q1 := List.getElem?_eq_getElem hk
      have q2 := ih _ (List.getElem_mem hk) f (by omega)
      generalize xs[k] = x at q1 q2
      clear g ih h
      repeat' decreasing_trivial_pre_omega
      refine w_of q2 ?_
      repeat' decreasing_trivial_pre_omega
      exact ⟨rfl, rfl⟩
    · clear ih h
      repeat' decreasing_trivial_pre_omega
      exact ⟨rfl, rfl⟩
theorem pz_tu (n : Nat) {l : List Nat} (hl : l.length ≤ 5000000) : Pz (n + 1) (tuT l) := .tup (fun z hz => by obtain ⟨k, _, rfl⟩ := List.mem_map.mp hz; exact .int n _) (by rw [List.length_map]; exact hl)
theorem pz_rw {ls : List (List Nat)} (hl : ls.length ≤ 5000000) (h : ∀ l ∈ ls, l.length ≤ 3) : Pz 2 (rwT ls) := .tup (fun z hz => by
  obtain ⟨l, hm, rfl⟩ := List.mem_map.mp hz
  exact pz_tu 0 (by have := h l hm; omega)) (by rw [List.length_map]; exact hl)
theorem bind_if {α : Type} {o : Option α} {p : α → Bool} {x : α} (h : (o.bind fun l => if p l = true then some l else none) = some x) : o = some x := by
  cases o with
  | none => cases h
  | some y =>
    rw [Option.bind_some] at h
    split at h
    · cases h; rfl
    · cases h
theorem found_pz {d : Nat} {a : Str} (ha : Tx a) {t : T} (h : foundIn d a = some t) : Pz 2 t := by
  have few : ∀ y : Str, (y.length == 0) = false → (Txt.split a y).length ≤ 4000001 := fun y hy => by
    have := (spl_tx ha hy).few
    have := ha.len
    omega
  match d with
  | 0 =>
    have h : (intsIn (Txt.split a " ") 2).map tuT = some t := h
    cases q : intsIn (Txt.split a " ") 2 with
    | none => rw [q] at h; cases h
    | some l => rw [q] at h; cases h; exact pz_tu 1 (by rw [intsIn_len q]; omega)
  | 1 =>
    have h : (boxIn a).map tuT = some t := h
    cases q : boxIn a with
    | none => rw [q] at h; cases h
    | some l =>
      rw [q] at h; cases h
      exact pz_tu 1 (by rw [intsIn_len (bind_if q)]; omega)
  | 2 =>
    have h : (spansIn a).map rwT = some t := h
    cases q : spansIn a with
    | none => rw [q] at h; cases h
    | some l =>
      rw [q] at h; cases h
      have q2 := bind_if (p := fun ls : List (List Nat) => ascL ls.flatten) q
      refine pz_rw ?_ fun l' hl' => ?_
      · have := allO_len q2
        rw [List.length_map] at this
        have := few " " l_sp
        omega
      · obtain ⟨p, _, e⟩ := List.mem_map.mp (allO_mem q2 l' hl')
        rw [intsIn_len e]; omega
  | d + 3 =>
    have h : (makeIn a).map rwT = some t := h
    cases q : makeIn a with
    | none => rw [q] at h; cases h
    | some l =>
      rw [q] at h; cases h
      have q2 := bind_if (p := makeB) q
      refine pz_rw ?_ fun l' hl' => ?_
      · have := allO_len q2
        rw [List.length_map] at this
        have := few ", " l_cm
        omega
      · rw [rowsIn_len q2 l' hl']; omega
theorem due_pz (d : Nat) {a : Str} (ha : Tx a) : Pz 3 (dueT d a) := by
  have two : ∀ (s : Str) (x : T), PyData.strOk s = true → Pz 2 x → Pz 3 (.tuple [.str s, x]) := fun s x hs hx => .tup (fun z hz => by
    simp only [List.mem_cons, List.not_mem_nil, or_false] at hz
    rcases hz with rfl | rfl
    · exact .str 2 hs
    · exact hx) (by simp)
  unfold dueT
  cases q : foundIn d (fl a) with
  | none => exact two _ _ (ok_of _) (.int 2 _)
  | some t =>
    show Pz 3 (if nlB a = true then _ else _)
    split
    · exact two _ _ (ok_of _) (.int 2 _)
    · exact two _ _ (ok_of _) (found_pz (fl_ix ha).2 q)
theorem due_same (d : Nat) {a : Str} (ha : Tx a) : m__law_same 8 [.v (dueT d a), .v (dueT d a)] = .ok (.r (.bool true)) [.v (dueT d a), .v (dueT d a)] := same_z 3 _ (due_pz d ha) 8 (by decide)

set_option linter.all false
set_option maxRecDepth 100000
set_option maxHeartbeats 4000000
open PySem PySem.Spec Ev Pu Mt Wp
structure TL0 (n : Nat) (s : Str) : Prop where
  len : s.length ≤ n
  ok : PyData.strOk s = true
def DoorQ (D : Dk) (k dg : Nat) : Od → En → Prop := fun r e => ∃ (D' : Dk) (t : T) (y : Str), D'.c ≤ D.c + 2000 ∧ TL0 12000 y ∧ r = .r (.tuple [t, .str y]) ∧ e = [.ow true (.l (dkT D')), .v (nT k), .v (nT dg), .v (.int 15)]
theorem pow_z (d : Nat) (hd : d ≤ 40) : ∃ Z, 10 ^ d = Z ∧ Z ≤ 10 ^ 40 := ⟨_, rfl, pow_le hd⟩
theorem pow_z38 (d : Nat) (hd : d ≤ 38) : ∃ Z, 10 ^ d = Z ∧ Z ≤ 10 ^ 38 := ⟨_, rfl, Nat.pow_le_pow_right (by decide) hd⟩
theorem rt_tx {r : List Int} (h : OkR r) : TL0 12000 (rowS r) := ⟨by have := rowS_len h; omega, ok_row r⟩
theorem door0 (D : Dk) (dg : Nat) (hd : 4 ≤ dg ∧ dg ≤ 40) (hc : D.c + 2000 ≤ 10 ^ 9) : W (m__law_door [.ow true (.l (dkT D)), .v (nT 0), .v (nT dg), .v (.int 15)]) (DoorQ D 0 dg) := by
  obtain ⟨Z, hZ, hZ2⟩ := pow_z dg hd.2
  unfold m__law_door
  (apply Wp.w_fun; (focus (rfl; done)); (focus (((try simp only [List.cons_append, List.nil_append, List.length_cons, List.length_nil, Nat.reduceAdd, Nat.reduceSub, Nat.zero_add, Nat.sub_zero, List.replicate_succ, List.replicate_zero, List.append_nil]); rfl); done)))
  unfold b__law_door
  repeat' decreasing_trivial_pre_omega
  refine w_imp (integer_w D dg Z hZ (by omega) (by omega) (by omega)) ?_
  rintro _ _ ⟨D1, v, hc1, hv, rfl, rfl⟩
  repeat' decreasing_trivial_pre_omega
  refine w_imp (integer_w D1 dg Z hZ (by omega) (by omega) (by omega)) ?_
  rintro _ _ ⟨D2, w, hc2, hw, rfl, rfl⟩
  clear hZ
  have hr : OkR [(v : Int), (w : Int)] := okr2 (by omega) (by omega)
  have ee : PyData.tuple [nT v, nT w] = rowT [(v : Int), (w : Int)] := rfl
  have s0 : m__law_said [.v (.tuple [nT v, nT w])] = .ok (.r (.str (rowS [(v : Int), (w : Int)]))) [.v (.tuple [nT v, nT w])] := by rw [ee]; exact said_row hr
  have t0 := rt_tx hr
  clear hr
  repeat' decreasing_trivial_pre_omega
  refine w_of s0 ?_
  repeat' decreasing_trivial_pre_omega
  exact ⟨D2, _, _, by omega, t0, rfl, rfl⟩
theorem door1 (D : Dk) (dg : Nat) (hd : 4 ≤ dg ∧ dg ≤ 40) (hc : D.c + 2000 ≤ 10 ^ 9) : W (m__law_door [.ow true (.l (dkT D)), .v (nT 1), .v (nT dg), .v (.int 15)]) (DoorQ D 1 dg) := by
  obtain ⟨Z, hZ, hZ2⟩ := pow_z38 (dg - 2) (by omega)
  have gs : gSub (nT dg) (.int 2) = some (.r (nT (dg - 2))) := by
    show some (Od.r (PyData.int ((dg : Int) - 2))) = _
    rw [show (dg : Int) - 2 = ((dg - 2 : Nat) : Int) by omega]
  unfold m__law_door
  (apply Wp.w_fun; (focus (rfl; done)); (focus (((try simp only [List.cons_append, List.nil_append, List.length_cons, List.length_nil, Nat.reduceAdd, Nat.reduceSub, Nat.zero_add, Nat.sub_zero, List.replicate_succ, List.replicate_zero, List.append_nil]); rfl); done)))
  unfold b__law_door
  repeat' decreasing_trivial_pre_omega
  refine w_imp (integer_w D (dg - 2) Z hZ (by omega) (by omega) (by omega)) ?_
  rintro _ _ ⟨D1, v, hc1, hv, rfl, rfl⟩
  repeat' decreasing_trivial_pre_omega
  refine w_imp (integer_w D1 (dg - 2) Z hZ (by omega) (by omega) (by omega)) ?_
  rintro _ _ ⟨D2, w, hc2, hw, rfl, rfl⟩
  repeat' decreasing_trivial_pre_omega
  refine w_imp (above_w D2 v (dg - 2) Z hZ (by omega) (by omega) (by omega)) ?_
  rintro _ _ ⟨D3, v2, hc3, hv2, rfl, rfl⟩
  repeat' decreasing_trivial_pre_omega
  refine w_imp (above_w D3 w (dg - 2) Z hZ (by omega) (by omega) (by omega)) ?_
  rintro _ _ ⟨D4, w2, hc4, hw2, rfl, rfl⟩
  clear hZ
  have hr : OkR [(v : Int), (w : Int), (v2 : Int), (w2 : Int)] := okr4 (by omega) (by omega) (by omega) (by omega)
  have ee : PyData.tuple ([nT v, nT w] ++ [nT v2, nT w2]) = rowT [(v : Int), (w : Int), (v2 : Int), (w2 : Int)] := rfl
  have s0 : m__law_said [.v (.tuple ([nT v, nT w] ++ [nT v2, nT w2]))] = .ok (.r (.str (rowS [(v : Int), (w : Int), (v2 : Int), (w2 : Int)]))) [.v (.tuple ([nT v, nT w] ++ [nT v2, nT w2]))] := by rw [ee]; exact said_row hr
  have t0 := rt_tx hr
  have ha : [nT v, nT w].length + [nT v2, nT w2].length ≤ sizeLine := by unfold sizeLine; simp
  clear hr
  repeat' decreasing_trivial_pre_omega
  refine w_of s0 ?_
  repeat' decreasing_trivial_pre_omega
  exact ⟨D4, _, _, by omega, t0, rfl, rfl⟩
theorem door3 (D : Dk) (dg : Nat) (hc : D.c + 2000 ≤ 10 ^ 9) : W (m__law_door [.ow true (.l (dkT D)), .v (nT 3), .v (nT dg), .v (.int 15)]) (DoorQ D 3 dg) := by
  unfold m__law_door
  (apply Wp.w_fun; (focus (rfl; done)); (focus (((try simp only [List.cons_append, List.nil_append, List.length_cons, List.length_nil, Nat.reduceAdd, Nat.reduceSub, Nat.zero_add, Nat.sub_zero, List.replicate_succ, List.replicate_zero, List.append_nil]); rfl); done)))
  unfold b__law_door
  repeat' decreasing_trivial_pre_omega
  refine w_imp (drw_w D 10 (by decide) (by decide) (by omega)) ?_
  rintro _ _ ⟨k, D1, hk, hc1, rfl, rfl⟩
  obtain ⟨many, hx, hm⟩ : ∃ n : Nat, [PyData.int 4, PyData.int 9, PyData.int 4, PyData.int 9, PyData.int 4, PyData.int 9, PyData.int 1, PyData.int 16, PyData.int 25, PyData.int 13][k]? = some (nT n) ∧ n ≤ 25 := by
    match k, hk with
    | 0, _ => exact ⟨4, rfl, by decide⟩
    | 1, _ => exact ⟨9, rfl, by decide⟩
    | 2, _ => exact ⟨4, rfl, by decide⟩
    | 3, _ => exact ⟨9, rfl, by decide⟩
    | 4, _ => exact ⟨4, rfl, by decide⟩
    | 5, _ => exact ⟨9, rfl, by decide⟩
    | 6, _ => exact ⟨1, rfl, by decide⟩
    | 7, _ => exact ⟨16, rfl, by decide⟩
    | 8, _ => exact ⟨25, rfl, by decide⟩
    | 9, _ => exact ⟨13, rfl, by decide⟩
    | k + 10, hw => omega
  repeat' decreasing_trivial_pre_omega
  unfold x2__law_door
  repeat' decreasing_trivial_pre_omega
  refine kr1 (n := many) rfl (by omega) ?_
  unfold below
  refine comp_all (fun (k : Nat) => PyData.int (k : Int)) (List.range many) (fun don acc e => ∃ (D' : Dk) (rs : List (List Int)), D'.c ≤ D1.c + don.length * 3 ∧ rs.length = don.length ∧ (∀ r ∈ rs, OkR r) ∧ acc = rs.map rowT ∧ e = [.ow true (.l (dkT D')), .v (nT 3), .v (nT dg), .v (.int 15), .un, .un, .un, .un, .un, .un, .v (nT many), .un]) ⟨D1, [], by simp, rfl, by simp, rfl, rfl⟩ (by rw [List.length_range]; unfold sizeLine; omega) ?_ ?_
  · rintro don j rest hx acc e ⟨D', rs, h1, h2, h3, rfl, rfl⟩
    have hdl := (range_cut hx)
    have hdn : don.length = j := by rw [hdl.1, List.length_range]
    refine ⟨_, rfl, ?_⟩
    repeat' decreasing_trivial_pre_omega
    refine w_imp (drw_w D' 4 (by decide) (by decide) (by omega)) ?_
    rintro _ _ ⟨a, D2, ha, hc2, rfl, rfl⟩
    repeat' decreasing_trivial_pre_omega
    refine w_imp (drw_w D2 2 (by decide) (by decide) (by omega)) ?_
    rintro _ _ ⟨b, D3, hb, hc3, rfl, rfl⟩
    repeat' decreasing_trivial_pre_omega
    refine w_imp (drw_w D3 2 (by decide) (by decide) (by omega)) ?_
    rintro _ _ ⟨c, D4, hcc, hc4, rfl, rfl⟩
    repeat' decreasing_trivial_pre_omega
    refine ⟨D4, rs ++ [[(a : Int), (b : Int), (c : Int)]], by rw [List.length_append, List.length_singleton]; omega, by rw [List.length_append, List.length_append, h2]; rfl, fun r hr => ?_, by rw [List.map_append]; rfl, rfl⟩
    rcases List.mem_append.mp hr with hr | hr
    · exact h3 r hr
    · rw [List.mem_singleton.mp hr]
      exact okr3 (by omega) (by omega) (by omega)
  · rintro acc e ⟨D', rs, h1, h2, h3, rfl, rfl⟩
    rw [List.length_range] at h1 h2
    have hl : rs.length ≤ 30 := by omega
    have ee : PyData.tuple (rs.map rowT) = rowsT rs := rfl
    have s0 : m__law_said_parts [.v (.tuple (rs.map rowT))] = .ok (.r (.str (rowsS rs))) [.v (.tuple (rs.map rowT))] := by rw [ee]; exact said_rows hl h3
    have t0 : TL0 12000 (rowsS rs) := ⟨by have := rowsS_len hl h3; omega, ok_rows rs⟩
    clear ee
    repeat' decreasing_trivial_pre_omega
    refine w_of s0 ?_
    repeat' decreasing_trivial_pre_omega
    exact ⟨D', _, _, by omega, t0, rfl, rfl⟩
theorem pick_d {k dg : Nat} (hk : k < 3) (hd : 4 ≤ dg ∧ dg ≤ 40) : ∃ n : Nat, [PyData.int 1, PyData.int 2, nT (dg - 3)][k]? = some (nT n) ∧ 0 < n ∧ n ≤ 37 := by
  match k, hk with
  | 0, _ => exact ⟨1, rfl, by decide, by decide⟩
  | 1, _ => exact ⟨2, rfl, by decide, by decide⟩
  | 2, _ => exact ⟨dg - 3, rfl, by omega, by omega⟩
  | k + 3, hw => omega
theorem z37 {d low v : Nat} (hd : d ≤ 37) (h : low < v ∧ v ≤ low + 10 ^ d + 60) : low < v ∧ v ≤ low + 10 ^ 37 + 60 := by
  have := Nat.pow_le_pow_right (show 0 < 10 by decide) hd
  generalize 10 ^ d = z at h this
  omega
theorem door2 (D : Dk) (dg : Nat) (hd : 4 ≤ dg ∧ dg ≤ 40) (hc : D.c + 2000 ≤ 10 ^ 9) : W (m__law_door [.ow true (.l (dkT D)), .v (nT 2), .v (nT dg), .v (.int 15)]) (DoorQ D 2 dg) := by
  have gs : gSub (nT dg) (.int 3) = some (.r (nT (dg - 3))) := by
    show some (Od.r (PyData.int ((dg : Int) - 3))) = _
    rw [show (dg : Int) - 3 = ((dg - 3 : Nat) : Int) by omega]
  unfold m__law_door
  (apply Wp.w_fun; (focus (rfl; done)); (focus (((try simp only [List.cons_append, List.nil_append, List.length_cons, List.length_nil, Nat.reduceAdd, Nat.reduceSub, Nat.zero_add, Nat.sub_zero, List.replicate_succ, List.replicate_zero, List.append_nil]); rfl); done)))
  unfold b__law_door l1__law_door
  repeat' decreasing_trivial_pre_omega
  refine w_imp (drw_w D 2 (by decide) (by decide) (by omega)) ?_
  rintro _ _ ⟨k, D1, hk, hc1, rfl, rfl⟩
  obtain ⟨d, hx, hdd⟩ : ∃ n : Nat, [PyData.int 2, nT (dg - 3)][k]? = some (nT n) ∧ 0 < n ∧ n ≤ 37 := by
    match k, hk with
    | 0, _ => exact ⟨2, rfl, by decide, by decide⟩
    | 1, _ => exact ⟨dg - 3, rfl, by omega, by omega⟩
    | k + 2, hw => omega
  repeat' decreasing_trivial_pre_omega
  refine w_imp (integer_w D1 d _ rfl hdd.1 (by omega) (by omega)) ?_
  rintro _ _ ⟨D2, at0, hc2, hat, rfl, rfl⟩
  have hat : at0 < 10 ^ 37 := by
    have := Nat.pow_le_pow_right (show 0 < 10 by decide) hdd.2
    generalize 10 ^ d = z at hat this
    have e37 : (60 : Nat) < 10 ^ 37 := by decide
    omega
  repeat' decreasing_trivial_pre_omega
  refine w_imp (drw_w D2 4 (by decide) (by decide) (by omega)) ?_
  rintro _ _ ⟨k2, D3, hk2, hc3, rfl, rfl⟩
  obtain ⟨m, hx2, hm⟩ : ∃ n : Nat, [PyData.int 2, PyData.int 6, PyData.int 15, PyData.int 97][k2]? = some (nT n) ∧ 0 < n ∧ n ≤ 97 := by
    match k2, hk2 with
    | 0, _ => exact ⟨2, rfl, by decide, by decide⟩
    | 1, _ => exact ⟨6, rfl, by decide, by decide⟩
    | 2, _ => exact ⟨15, rfl, by decide, by decide⟩
    | 3, _ => exact ⟨97, rfl, by decide, by decide⟩
    | k + 4, hw => omega
  repeat' decreasing_trivial_pre_omega
  refine w_imp (drw_w D3 m hm.1 (by omega) (by omega)) ?_
  rintro _ _ ⟨tn, D4, htn, hc4, rfl, rfl⟩
  repeat' decreasing_trivial_pre_omega
  refine kr1_eq (1 + tn) rfl (by simp) (by omega) ?_
  refine for_below (fun k e => ∃ (D' : Dk) (ps : List (Int × Int)) (at' : Nat) (s8 s9 : Sl), (lentS s8 = false ∧ lentS s9 = false) ∧ D'.c ≤ D4.c + k * 12 ∧ ps.length = k ∧ at' ≤ at0 + k * (2 * (10 ^ 37 + 60)) ∧ (∀ p ∈ ps, OkP p) ∧ e = [.ow true (.l (dkT D')), .v (nT 2), .v (nT dg), .v (.int 15), .un, .un, .ow false (.l (ps.map cT)), .v (nT at'), s8, s9, .un, .un]) ⟨D4, [], at0, .un, .un, ⟨rfl, rfl⟩, by simp, rfl, by omega, by simp, rfl⟩ ?_ ?_
  · rintro j hj e ⟨D', ps, at', s8, s9, ⟨a8, a9⟩, h1, h2, h3, h4, rfl⟩
    refine ⟨_, gN_ok (by first | rfl | exact Wp.isLent_of rfl (by assumption)) rfl, ?_⟩
    unfold y1__law_door
    repeat' decreasing_trivial_pre_omega
    refine w_imp (drw_w D' 3 (by decide) (by decide) (by omega)) ?_
    rintro _ _ ⟨i1, D5, hi1, hc5, rfl, rfl⟩
    obtain ⟨d1, hx3, hd1⟩ := pick_d hi1 hd
    repeat' decreasing_trivial_pre_omega
    refine w_imp (above_w D5 at' d1 _ rfl hd1.1 (by omega) (by omega)) ?_
    rintro _ _ ⟨D6, beh, hc6, hbeh, rfl, rfl⟩
    have hbeh := z37 hd1.2 hbeh
    have ha : (ps.map cT).length < sizeLine := by rw [List.length_map]; unfold sizeLine; omega
    repeat' decreasing_trivial_pre_omega
    refine w_imp (drw_w D6 3 (by decide) (by decide) (by omega)) ?_
    rintro _ _ ⟨i2, D7, hi2, hc7, rfl, rfl⟩
    obtain ⟨d2, hx4, hd2⟩ := pick_d hi2 hd
    repeat' decreasing_trivial_pre_omega
    refine w_imp (above_w D7 beh d2 _ rfl hd2.1 (by omega) (by omega)) ?_
    rintro _ _ ⟨D8, at2, hc8, hat2, rfl, rfl⟩
    have hat2 := z37 hd2.2 hat2
    repeat' decreasing_trivial_pre_omega
    have b1 : (at' : Int) < 10 ^ 40 ∧ (beh : Int) < 10 ^ 40 := by omega
    refine ⟨D8, ps ++ [((at' : Int), (beh : Int))], at2, .v (nT j), .v (nT beh), ⟨rfl, rfl⟩, by omega, by rw [List.length_append, h2]; rfl, by omega, ?_, by rw [List.map_append]; rfl⟩
    intro r hr
    rcases List.mem_append.mp hr with hr | hr
    · exact h4 r hr
    · rw [List.mem_singleton.mp hr]
      exact ⟨by dsimp only; omega, by dsimp only; omega⟩
  · rintro e ⟨D', ps, at', s8, s9, ⟨a8, a9⟩, h1, h2, h3, h4, rfl⟩
    have hl : ps.length ≤ 97 := by omega
    repeat' decreasing_trivial_pre_omega
    unfold x1__law_door
    repeat' decreasing_trivial_pre_omega
    refine comp_map_w cT (fun p => .str (spanS p)) ps (by unfold sizeLine; omega) (fun p hp => ⟨_, rfl, ?_⟩) ?_
    · have hp' := h4 p hp
      have l1 := numS_len hp'.a
      have l2 := numS_len hp'.b
      have d1 : ("-" : Str).length = 1 := dash_len
      have g1 : gStr [PyData.int p.1] = some (.r (.str (numS p.1))) := gStr_ok (num_log hp'.a)
      have g2 : gStr [PyData.int p.2] = some (.r (.str (numS p.2))) := gStr_ok (num_log hp'.b)
      have a1 : gAdd (.str (numS p.1)) (.str "-") = some (.r (.str (numS p.1 ++ ("-" : Str)))) := gAdd_ss (by rw [d1]; unfold sizeLine; omega)
      have a2 : gAdd (.str (numS p.1 ++ ("-" : Str))) (.str (numS p.2)) = some (.r (.str (spanS p))) := gAdd_ss (by rw [app_len, d1]; unfold sizeLine; omega)
      generalize spanS p = z at a2
      generalize numS p.1 ++ ("-" : Str) = w at a1 a2
      generalize numS p.1 = u at g1 a1
      generalize numS p.2 = v at g2 a2
      clear gs
      repeat' decreasing_trivial_pre_omega
      exact ⟨rfl, rfl⟩
    · have q2 := strs_map2 spanS ps
      have hB : ∀ y ∈ ps.map spanS, y.length ≤ 121 := fun y hy => by
        obtain ⟨p, hp, rfl⟩ := List.mem_map.mp hy
        exact spanS_len (h4 p hp)
      have h1s : (" " : Str).length = 1 := by decide +kernel
      have q3 : ((ps.map spanS).map (·.length)).sum + (ps.map spanS).length * (" " : Str).length ≤ 16777216 := join_fit (B := 121) hB (by rw [List.length_map, h1s]; omega)
      have t0 : TL0 12000 (Txt.join " " (ps.map spanS)) := ⟨by
        have j1 := join_len " " (ps.map spanS)
        have j2 := sum_le (ps.map spanS) hB
        rw [List.length_map] at j2
        rw [List.length_map, h1s] at j1
        omega, ok_spans ps⟩
      repeat' decreasing_trivial_pre_omega
      exact ⟨D', _, _, by omega, t0, rfl, rfl⟩

set_option linter.all false
set_option maxRecDepth 100000
set_option maxHeartbeats 4000000
open PySem PySem.Spec Ev Pu Mt Wp
theorem TL0.mono {n m : Nat} {s : Str} (h : TL0 n s) (k : n ≤ m) : TL0 m s := ⟨Nat.le_trans h.len k, h.ok⟩
theorem TL0.app {n m : Nat} {s t : Str} (h : TL0 n s) (k : TL0 m t) : TL0 (n + m) (s ++ t) := ⟨by rw [app_len]; have := h.len; have := k.len; omega, ok_app h.ok k.ok⟩
theorem cut_ok {s : Str} {lo hi : Option Int} (h : PyData.strOk s = true) : PyData.strOk (L2.cutS s lo hi) = true := by
  unfold PyData.strOk L2.cutS
  rw [← Array.all_toList]
  refine List.all_eq_true.mpr fun c hc => ?_
  have hc : c ∈ (s.cps.toList.drop (HT.sIx s.length 0 lo)).take (HT.sIx s.length s.length hi - HT.sIx s.length 0 lo) := hc
  exact decide_eq_true (ok_mem h (List.mem_of_mem_drop (List.mem_of_mem_take hc)))
theorem cut_tl {n : Nat} {s : Str} (h : TL0 n s) (lo hi : Option Int) : TL0 n (L2.cutS s lo hi) := ⟨Nat.le_trans (L2.cutS_length s lo hi) h.len, cut_ok h.ok⟩
theorem lit_tl {n : Nat} (s : String) (h : (Str.ofString s).length ≤ n) : TL0 n (Str.ofString s) := ⟨h, ok_of s⟩
/-- one of some texts -/
theorem pick_str {n : Nat} : ∀ {ss : List Str} {k : Nat}, k < ss.length → (∀ s ∈ ss, TL0 n s) → ∃ s, (ss.map PyData.str)[k]? = some (.str s) ∧ TL0 n s := fun {ss k} hk h =>
  ⟨ss[k], by rw [List.getElem?_map, List.getElem?_eq_getElem hk]; rfl, h _ (List.getElem_mem hk)⟩
theorem len_a : (" !\"#$&'()*+,-./0123456789:;<=>?@ABCDEFGHIJKLMNOPQRSTUVWXYZ[\\]^_`" : Str).length ≤ 100 := by decide +kernel
theorem len_b : ("abcdefghijklmnopqrstuvwxyz{|}~\n" : Str).length ≤ 100 := by decide +kernel
theorem len_c : ("0123456789- ,\n" : Str).length ≤ 100 ∧ 0 < ("0123456789- ,\n" : Str).length := by decide +kernel
theorem len_b0 : 0 < ("abcdefghijklmnopqrstuvwxyz{|}~\n" : Str).length := by decide +kernel
theorem ix_s {s : Str} {k : Nat} (hk : k < s.length) (hs : s.length ≤ sizeLine) (ho : PyData.strOk s = true) : ∃ y, gIxS (.str s) (.int (k : Int)) = some (.r (.str y)) ∧ TL0 1 y := by
  have hk2 : k < (tl s).length := by rw [← TL.len_tl s]; exact hk
  refine ⟨⟨#[(tl s)[k]]⟩, ?_, ⟨Nat.le_of_eq rfl, ok_sign (ok_mem ho (List.getElem_mem hk2))⟩⟩
  show (if s.length ≤ sizeLine then (L2.atI (tl s) (k : Int)).map (fun c => Od.r (.str ⟨#[c]⟩)) else none) = _
  rw [if_pos hs]
  unfold L2.atI
  rw [ixN_nat hk2]
  show (((tl s)[k]?).map fun c => Od.r (.str ⟨#[c]⟩)) = _
  rw [List.getElem?_eq_getElem hk2]
  rfl
theorem sign_w (D : Dk) (hc : D.c + 2 ≤ 10 ^ 9) : W (m__law_sign [.ow true (.l (dkT D))]) fun r e => ∃ (D' : Dk) (y : Str), D'.c ≤ D.c + 2 ∧ TL0 1 y ∧ r = .r (.str y) ∧ e = [.ow true (.l (dkT D'))] := by
  have la := len_a
  have lb := len_b
  have lc := len_c
  have lb0 := len_b0
  have oa : PyData.strOk (" !\"#$&'()*+,-./0123456789:;<=>?@ABCDEFGHIJKLMNOPQRSTUVWXYZ[\\]^_`" : Str) = true := ok_of _
  have ob : PyData.strOk ("abcdefghijklmnopqrstuvwxyz{|}~\n" : Str) = true := ok_of _
  have oc : PyData.strOk ("0123456789- ,\n" : Str) = true := ok_of _
  unfold m__law_sign
  (apply Wp.w_fun; (focus (rfl; done)); (focus (((try simp only [List.cons_append, List.nil_append, List.length_cons, List.length_nil, Nat.reduceAdd, Nat.reduceSub, Nat.zero_add, Nat.sub_zero, List.replicate_succ, List.replicate_zero, List.append_nil]); rfl); done)))
  unfold b__law_sign
  generalize (" !\"#$&'()*+,-./0123456789:;<=>?@ABCDEFGHIJKLMNOPQRSTUVWXYZ[\\]^_`" : Str) = sa at *
  generalize ("abcdefghijklmnopqrstuvwxyz{|}~\n" : Str) = sb at *
  generalize ("0123456789- ,\n" : Str) = sc at *
  have ha : sa.length + sb.length ≤ sizeLine := by unfold sizeLine; omega
  repeat' decreasing_trivial_pre_omega
  refine w_imp (drw_w D 2 (by decide) (by decide) (by omega)) ?_
  rintro _ _ ⟨k, D1, hk, hc1, rfl, rfl⟩
  obtain ⟨s, hx, hs0, hs, ho⟩ : ∃ s, [PyData.str (sa ++ sb), PyData.str sc][k]? = some (.str s) ∧ 0 < s.length ∧ s.length ≤ 200 ∧ PyData.strOk s = true := by
    match k, hk with
    | 0, _ => exact ⟨sa ++ sb, rfl, by rw [app_len]; omega, by rw [app_len]; omega, ok_app oa ob⟩
    | 1, _ => exact ⟨sc, rfl, lc.2, by omega, oc⟩
    | k + 2, hw => omega
  clear la lb lc lb0 oa ob oc ha
  have hsl : s.length ≤ sizeLine := by unfold sizeLine; omega
  repeat' decreasing_trivial_pre_omega
  refine w_imp (drw_w D1 s.length hs0 (by omega) (by omega)) ?_
  rintro _ _ ⟨j, D2, hj, hc2, rfl, rfl⟩
  obtain ⟨y, hy, ty⟩ := ix_s hj hsl ho
  repeat' decreasing_trivial_pre_omega
  exact ⟨D2, y, by omega, ty, rfl, rfl⟩
theorem signs_w (D : Dk) (s : Str) (L : Nat) (h : TL0 L s) (hL : L ≤ 1000000) (hc : D.c + 4 ≤ 10 ^ 9) : W (m__law_bent_signs [.ow true (.l (dkT D)), .v (.str s)]) fun r e => ∃ (D' : Dk) (y : Str), D'.c ≤ D.c + 4 ∧ TL0 (4 * L + 5000) y ∧ r = .r (.str y) ∧ e = [.ow true (.l (dkT D')), .v (.str s)] := by
  have hl := h.len
  have hsl : s.length ≤ sizeLine := by unfold sizeLine; omega
  have gs : gAdd (.int (s.length : Int)) (.int 1) = some (.r (nT (s.length + 1))) := rfl
  have ct := cut_tl h
  unfold m__law_bent_signs
  (apply Wp.w_fun; (focus (rfl; done)); (focus (((try simp only [List.cons_append, List.nil_append, List.length_cons, List.length_nil, Nat.reduceAdd, Nat.reduceSub, Nat.zero_add, Nat.sub_zero, List.replicate_succ, List.replicate_zero, List.append_nil]); rfl); done)))
  unfold b__law_bent_signs
  repeat' decreasing_trivial_pre_omega
  refine w_imp (drw_w D (s.length + 1) (by omega) (by omega) (by omega)) ?_
  rintro _ _ ⟨at', D1, hat, hc1, rfl, rfl⟩
  repeat' decreasing_trivial_pre_omega
  refine w_imp (drw_w D1 4 (by decide) (by decide) (by omega)) ?_
  rintro _ _ ⟨way, D2, hw, hc2, rfl, rfl⟩
  repeat' decreasing_trivial_pre_omega
  clear gs
  have fit : ∀ {x y : Str} {n m : Nat}, TL0 n x → TL0 m y → n + m ≤ 8000000 → gAdd (.str x) (.str y) = some (.r (.str (x ++ y))) := fun hx hy hn => gAdd_ss (by have := hx.len; have := hy.len; unfold sizeLine; omega)
  refine kif_d (fun hw0 => ?_) fun hw0 => ?_
  · repeat' decreasing_trivial_pre_omega
    have t1 := ct none (some (at' : Int))
    have t2 := ct (some (at' : Int)) none
    generalize L2.cutS s none (some (at' : Int)) = x1 at t1 ⊢
    refine w_imp (sign_w D2 (by omega)) ?_
    rintro _ _ ⟨D3, y, hc3, ty, rfl, rfl⟩
    have g1 := fit t1 ty (by omega)
    repeat' decreasing_trivial_pre_omega
    generalize L2.cutS s (some (at' : Int)) none = x2 at t2 ⊢
    have g2 := fit (t1.app ty) t2 (by omega)
    repeat' decreasing_trivial_pre_omega
    exact ⟨D3, _, by omega, ((t1.app ty).app t2).mono (by omega), rfl, rfl⟩
  · repeat' decreasing_trivial_pre_omega
    refine kif_d (fun hw1 => ?_) fun hw1 => ?_
    · repeat' decreasing_trivial_pre_omega
      have t1 := ct none (some (at' : Int))
      have t2 := ct (some ((at' : Int) + 1)) none
      generalize L2.cutS s none (some (at' : Int)) = x1 at t1 ⊢
      refine w_imp (sign_w D2 (by omega)) ?_
      rintro _ _ ⟨D3, y, hc3, ty, rfl, rfl⟩
      have g1 := fit t1 ty (by omega)
      repeat' decreasing_trivial_pre_omega
      generalize L2.cutS s (some ((at' : Int) + 1)) none = x2 at t2 ⊢
      have g2 := fit (t1.app ty) t2 (by omega)
      repeat' decreasing_trivial_pre_omega
      exact ⟨D3, _, by omega, ((t1.app ty).app t2).mono (by omega), rfl, rfl⟩
    · repeat' decreasing_trivial_pre_omega
      refine kif_d (fun hw2 => ?_) fun hw2 => ?_
      · have g1 := fit (ct none (some (at' : Int))) (ct (some ((at' : Int) + 1)) none) (by omega)
        repeat' decreasing_trivial_pre_omega
        exact ⟨D2, _, by omega, ((ct none (some (at' : Int))).app (ct (some ((at' : Int) + 1)) none)).mono (by omega), rfl, rfl⟩
      · have t1 := ct none (some (at' : Int))
        have t2 := ct (some ((at' : Int) + 1)) (some ((at' : Int) + 2))
        have t3 := ct (some (at' : Int)) (some ((at' : Int) + 1))
        have t4 := ct (some ((at' : Int) + 2)) none
        have g1 := fit t1 t2 (by omega)
        have g2 := fit (t1.app t2) t3 (by omega)
        have g3 := fit ((t1.app t2).app t3) t4 (by omega)
        repeat' decreasing_trivial_pre_omega
        exact ⟨D2, _, by omega, (((t1.app t2).app t3).app t4).mono (by omega), rfl, rfl⟩

set_option linter.all false
set_option maxRecDepth 100000
set_option maxHeartbeats 4000000
open PySem PySem.Spec Ev Pu Mt Wp
def sumL (ps : List Str) : Nat := (ps.map (·.length)).sum
theorem sumL_app (a b : List Str) : sumL (a ++ b) = sumL a + sumL b := by unfold sumL; rw [List.map_append, List.sum_append]
theorem sumL_set (x : Str) : ∀ (ps : List Str) (k : Nat), sumL (ps.set k x) ≤ sumL ps + x.length
  | [], k => by simp [sumL]
  | p :: ps, 0 => by simp only [List.set_cons_zero, sumL, List.map_cons, List.sum_cons]; omega
  | p :: ps, k + 1 => by
    have := sumL_set x ps k
    simp only [List.set_cons_succ, sumL, List.map_cons, List.sum_cons] at this ⊢
    omega
theorem sumL_ins (x : Str) (ps : List Str) (k : Nat) : sumL (ps.take k ++ [x] ++ ps.drop k) = sumL ps + x.length := by
  rw [sumL_app, sumL_app]
  have := sumL_app (ps.take k) (ps.drop k)
  rw [List.take_append_drop] at this
  have h : sumL [x] = x.length := by simp [sumL]
  omega
theorem sumL_erase : ∀ (ps : List Str) (k : Nat), sumL (ps.eraseIdx k) ≤ sumL ps
  | [], k => by simp
  | p :: ps, 0 => by simp only [List.eraseIdx_cons_zero, sumL, List.map_cons, List.sum_cons]; omega
  | p :: ps, k + 1 => by
    have := sumL_erase ps k
    simp only [List.eraseIdx_cons_succ, sumL, List.map_cons, List.sum_cons] at this ⊢
    omega
theorem sumL_join (y : Str) : ∀ ps : List Str, ps ≠ [] → (Str.join y ps).length + y.length = sumL ps + ps.length * y.length
  | [], h => absurd rfl h
  | [x], _ => by simp [Str.join, sumL]
  | x :: z :: zs, _ => by
    have ih := sumL_join y (z :: zs) (by simp)
    rw [join_cc, app_len, app_len]
    simp only [sumL, List.map_cons, List.sum_cons, List.length_cons, Nat.add_mul, Nat.one_mul] at ih ⊢
    omega
theorem parts_of {L : Nat} {s y : Str} (h : TL0 L s) (hL : L ≤ 4000000) (hy : (y.length == 0) = false) : ∃ ps : List Str, fSplit s y = some (.b (.l (ps.map PyData.str))) ∧ 0 < ps.length ∧ sumL ps + ps.length * y.length ≤ L + y.length ∧ ∀ p ∈ ps, TL0 L p := by
  have tx : Tx s := ⟨by have := h.len; omega, h.ok⟩
  have sp := spl_tx tx hy
  have j := sumL_join y _ sp.ne
  rw [StrLaws.join_split] at j
  have := h.len
  exact ⟨_, sp.f, List.length_pos_iff.mpr sp.ne, by omega, fun p hp => ⟨by have := (sp.tx p hp).2; omega, (sp.tx p hp).1.ok⟩⟩
theorem join_w {n : Nat} {y : Str} {ps : List Str} (hy : PyData.strOk y = true) (h : ∀ p ∈ ps, PyData.strOk p = true) (hn : sumL ps + ps.length * y.length ≤ n) (h16 : n ≤ 16000000) :
    (strsOf (ps.map PyData.str) = some ps ∧ (ps.map (·.length)).sum + ps.length * y.length ≤ 16777216) ∧ TL0 n (Txt.join y ps) :=
  ⟨⟨strs_map ps, by have : sumL ps = (ps.map (·.length)).sum := rfl; omega⟩, ⟨Nat.le_trans (join_len y ps) (by have : sumL ps = (ps.map (·.length)).sum := rfl; omega), ok_join hy ps h⟩⟩
theorem gIns_ok {ps : List Str} {k : Nat} {x : Str} (h : ps.length < sizeLine) (hk : k < 1000000000) : gInsert (ps.map PyData.str) [nT k, .str x] = some ((ps.take k ++ [x] ++ ps.drop k).map PyData.str, .none) := by
  show (if (ps.map PyData.str).length < sizeLine ∧ 0 ≤ (k : Int) ∧ (k : Int) < 2 ^ 63 then some ((ps.map PyData.str).take (k : Int).toNat ++ [PyData.str x] ++ (ps.map PyData.str).drop (k : Int).toNat, PyData.none) else none) = _
  rw [if_pos ⟨by rw [List.length_map]; exact h, by omega, by omega⟩, Int.toNat_natCast, List.map_append, List.map_append, List.map_take, List.map_drop]
  rfl
theorem gPop_big {ts : List T} {k : Nat} {x : T} (h : ts[k]? = some x) (hl : ts.length ≤ 5000000) : gPop ts [.int (k : Int)] = some (ts.eraseIdx k, x) := by
  have hk := (List.getElem?_eq_some_iff.mp h).1
  unfold gPop
  have e : seqIndex? (k : Int) ts.length = some k := by
    unfold seqIndex?
    have h1 : ¬ (k : Int) < 0 := by omega
    simp only [h1, if_false]
    rw [if_pos (by simp; omega)]
    simp
  simp only [e, h]
  rw [if_pos ⟨by omega, by omega⟩]
theorem gPopS_ok {ps : List Str} {k : Nat} (h : k < ps.length) (hl : ps.length ≤ 5000000) : gPop (ps.map PyData.str) [nT k] = some ((ps.eraseIdx k).map PyData.str, .str ps[k]) := by
  unfold nT
  rw [gPop_big (x := .str ps[k]) (by rw [List.getElem?_map, List.getElem?_eq_getElem h]; rfl) (by rw [List.length_map]; exact hl), erase_map]
theorem ixS {ps : List Str} {k : Nat} (h : k < ps.length) : (ps.map PyData.str)[k]? = some (.str ps[k]) := by rw [List.getElem?_map, List.getElem?_eq_getElem h]; rfl
theorem bparts_w (D : Dk) (s y o : Str) (L : Nat) (h : TL0 L s) (hL : L ≤ 1000000) (hy : (y.length == 0) = false ∧ y.length ≤ 2 ∧ PyData.strOk y = true) (ho : TL0 4500 o) (hc : D.c + 3 ≤ 10 ^ 9) :
    W (m__law_bent_parts [.ow true (.l (dkT D)), .v (.str s), .v (.str y), .v (.str o)]) fun r e => ∃ (D' : Dk) (z : Str), D'.c ≤ D.c + 3 ∧ TL0 (4 * L + 5000) z ∧ r = .r (.str z) ∧ e = [.ow true (.l (dkT D')), .v (.str s), .v (.str y), .v (.str o)] := by
  obtain ⟨ps, sf, hn, tot, each⟩ := parts_of h (by omega) hy.1
  have hy1 : 1 ≤ y.length := by
    have : y.length ≠ 0 := by simpa using hy.1
    omega
  have hnn : ps.length * 1 ≤ ps.length * y.length := Nat.mul_le_mul_left _ hy1
  have hlm : (ps.map PyData.str).length = ps.length := List.length_map ..
  have hos := ho.len
  unfold m__law_bent_parts
  (apply Wp.w_fun; (focus (rfl; done)); (focus (((try simp only [List.cons_append, List.nil_append, List.length_cons, List.length_nil, Nat.reduceAdd, Nat.reduceSub, Nat.zero_add, Nat.sub_zero, List.replicate_succ, List.replicate_zero, List.append_nil]); rfl); done)))
  unfold b__law_bent_parts
  repeat' decreasing_trivial_pre_omega
  rw [hlm]
  refine w_imp (drw_w D ps.length hn (by omega) (by omega)) ?_
  rintro _ _ ⟨i, D1, hi, hc1, rfl, rfl⟩
  repeat' decreasing_trivial_pre_omega
  refine w_imp (drw_w D1 4 (by decide) (by decide) (by omega)) ?_
  rintro _ _ ⟨way, D2, hw, hc2, rfl, rfl⟩
  repeat' decreasing_trivial_pre_omega
  rw [hlm]
  refine w_imp (drw_w D2 ps.length hn (by omega) (by omega)) ?_
  rintro _ _ ⟨j, D3, hj, hc3, rfl, rfl⟩
  clear sf
  repeat' decreasing_trivial_pre_omega
  have xi := ixS hi
  have xj := ixS hj
  have ti := each _ (List.getElem_mem hi)
  have tj := each _ (List.getElem_mem hj)
  have iI : i < (ps.map PyData.str).length := by rw [hlm]; exact hi
  have jI : j < (ps.map PyData.str).length := by rw [hlm]; exact hj
  have ok : ∀ p ∈ ps, PyData.strOk p = true := fun p hp => (each p hp).ok
  have hset := fun (x : Str) (k : Nat) => sumL_set x ps k
  generalize hpi : ps[i] = pi at xi ti
  generalize hpj : ps[j] = pj at xj tj
  have hli := ti.len
  have hlj := tj.len
  refine kif_d (fun hw0 => ?_) fun hw0 => ?_
  · obtain ⟨⟨q2, q3⟩, tz⟩ := join_w (n := 4 * L + 5000) (ps := ps.take j ++ [pi] ++ ps.drop j) hy.2.2 (fun p hp => by
      simp only [List.mem_append, List.mem_singleton] at hp
      rcases hp with (hp | hp) | hp
      · exact ok p (List.mem_of_mem_take hp)
      · rw [hp]; exact ti.ok
      · exact ok p (List.mem_of_mem_drop hp)) (by
      rw [sumL_ins]
      have : (ps.take j ++ [pi] ++ ps.drop j).length = ps.length + 1 := by simp; omega
      rw [this, Nat.add_mul]
      omega) (by omega)
    have gi := gIns_ok (ps := ps) (k := j) (x := pi) (by unfold sizeLine; omega) (by omega)
    clear xj
    repeat' decreasing_trivial_pre_omega
    exact ⟨D3, _, by omega, tz, rfl, rfl⟩
  · repeat' decreasing_trivial_pre_omega
    refine kif_d (fun hw1 => ?_) fun hw1 => ?_
    · have gp := gPopS_ok hi (by omega)
      obtain ⟨⟨q2, q3⟩, tz⟩ := join_w (n := 4 * L + 5000) (ps := ps.eraseIdx i) hy.2.2 (fun p hp => ok p (List.mem_of_mem_eraseIdx hp)) (by
        have h1 := sumL_erase ps i
        have h2 : (ps.eraseIdx i).length * y.length ≤ ps.length * y.length := Nat.mul_le_mul_right _ (List.length_eraseIdx_le ..)
        omega) (by omega)
      clear xi xj
      repeat' decreasing_trivial_pre_omega
      exact ⟨D3, _, by omega, tz, rfl, rfl⟩
    · repeat' decreasing_trivial_pre_omega
      refine kif_d (fun hw2 => ?_) fun hw2 => ?_
      · obtain ⟨⟨q2, q3⟩, tz⟩ := join_w (n := 4 * L + 5000) (ps := (ps.set i pj).set j pi) hy.2.2 (fun p hp => by
          rcases List.mem_or_eq_of_mem_set hp with hp | rfl
          · rcases List.mem_or_eq_of_mem_set hp with hp | rfl
            · exact ok p hp
            · exact tj.ok
          · exact ti.ok) (by
          have h1 := sumL_set pi (ps.set i pj) j
          have h2 := hset pj i
          have h3 : ((ps.set i pj).set j pi).length = ps.length := by simp
          rw [h3]
          omega) (by omega)
        have jI2 : j < ((ps.map PyData.str).set i (.str pj)).length := by rw [List.length_set]; exact jI
        rw [show ((ps.set i pj).set j pi).map PyData.str = ((ps.map PyData.str).set i (.str pj)).set j (.str pi) by rw [List.map_set, List.map_set]] at q2
        repeat' decreasing_trivial_pre_omega
        exact ⟨D3, _, by omega, tz, rfl, rfl⟩
      · obtain ⟨⟨q2, q3⟩, tz⟩ := join_w (n := 4 * L + 5000) (ps := ps.set i o) hy.2.2 (fun p hp => by
          rcases List.mem_or_eq_of_mem_set hp with hp | rfl
          · exact ok p hp
          · exact ho.ok) (by
          have h2 := hset o i
          rw [List.length_set]
          omega) (by omega)
        rw [List.map_set] at q2
        repeat' decreasing_trivial_pre_omega
        exact ⟨D3, _, by omega, tz, rfl, rfl⟩

set_option linter.all false
set_option maxRecDepth 100000
set_option maxHeartbeats 4000000
open PySem PySem.Spec Ev Pu Mt Wp
theorem foldl_all (p : Nat → Bool) (a : Array Nat) (ha : a.all p = true) : ∀ (n : Nat) (b : Array Nat), b.all p = true → ((List.replicate n a).foldl (· ++ ·) b).all p = true
  | 0, b, hb => hb
  | n + 1, b, hb => by
    rw [List.replicate_succ, List.foldl_cons]
    exact foldl_all p a ha n _ (by rw [Array.all_append, hb, ha]; rfl)
theorem rep_tl {z : Str} {n : Int} (h : PyData.strOk z = true) {m : Nat} (hm : n.toNat * z.length ≤ m) : TL0 m (repS z n) := ⟨by rw [repS_len]; exact hm, foldl_all _ _ h _ _ (by simp)⟩
theorem gRep_ok {z : Str} {n : Int} (h : 2 ≤ n ∧ n ≤ 100000 ∧ 1 ≤ z.length ∧ z.length ≤ 100) : gRepS (.str z) (.int n) = some (.r (.str (repS z n))) := if_pos h
def odA : List Str := ["", "0", "-0", "+1", "01", "1", "2", "3", "4", "5", "00", "-", "--", "1.0", "1_0", "1,", ",1", "-1"]
def odB : List Str := [",", "1 2", "0-1", "1-2", "1-", "1--2", "0-01"]
def odC : List Str := ["1-2-3", "2-2", "3-2", "book", "field", "Book", "books", "fields", "book 2", "field 0 0 0", "x"]
def odD : List Str := [" ", "1 0", "0 0 0", "0 0 0, 1 0 0", ", 0 0 0", "0x1", "1e3", "10", "9", "8"]
theorem od_all : ((odA ++ odB ++ odC ++ odD).all fun s => decide (s.length ≤ 4500) && PyData.strOk s) = true := by decide +kernel
theorem od_tl {s : Str} (h : s ∈ odA ++ odB ++ odC ++ odD) : TL0 4500 s := by
  have := List.all_eq_true.mp od_all s h
  rw [Bool.and_eq_true] at this
  exact ⟨of_decide_eq_true this.1, this.2⟩
theorem odd_w (D : Dk) (hc : D.c + 1 ≤ 10 ^ 9) : W (m__law_odd_word [.ow true (.l (dkT D))]) fun r e => ∃ (D' : Dk) (y : Str), D'.c ≤ D.c + 1 ∧ TL0 4500 y ∧ r = .r (.str y) ∧ e = [.ow true (.l (dkT D'))] := by
  have o9 : PyData.strOk ("9" : Str) = true ∧ 1 = ("9" : Str).length := by decide +kernel
  have o0 : PyData.strOk ("0" : Str) = true ∧ 1 = ("0" : Str).length := by decide +kernel
  have o7 : PyData.strOk ("7" : Str) = true ∧ 1 = ("7" : Str).length := by decide +kernel
  have o1 : TL0 1 ("1" : Str) := ⟨by decide +kernel, ok_of _⟩
  have r9 : gRepS (.str "9") (.int 40) = some (.r (.str (repS "9" 40))) := gRep_ok ⟨by decide, by decide, by omega, by omega⟩
  have r0 : gRepS (.str "0") (.int 40) = some (.r (.str (repS "0" 40))) := gRep_ok ⟨by decide, by decide, by omega, by omega⟩
  have r41 : gRepS (.str "0") (.int 41) = some (.r (.str (repS "0" 41))) := gRep_ok ⟨by decide, by decide, by omega, by omega⟩
  have r7 : gRepS (.str "7") (.int 4400) = some (.r (.str (repS "7" 4400))) := gRep_ok ⟨by decide, by decide, by omega, by omega⟩
  have t9 : TL0 4400 (repS "9" 40) := rep_tl o9.1 (by rw [← o9.2]; decide)
  have t0 : TL0 4400 (repS "0" 40) := rep_tl o0.1 (by rw [← o0.2]; decide)
  have t41 : TL0 4400 (repS "0" 41) := rep_tl o0.1 (by rw [← o0.2]; decide)
  have t7 : TL0 4400 (repS "7" 4400) := rep_tl o7.1 (by rw [← o7.2]; decide)
  generalize repS "9" 40 = w9 at *
  generalize repS "0" 40 = w0 at *
  generalize repS "0" 41 = w41 at *
  generalize repS "7" 4400 = w7 at *
  have g1 : gAdd (.str "1") (.str w0) = some (.r (.str (("1" : Str) ++ w0))) := gAdd_ss (by have := o1.len; have := t0.len; unfold sizeLine; omega)
  have t1 : TL0 4500 (("1" : Str) ++ w0) := (o1.app t0).mono (by omega)
  generalize ("1" : Str) ++ w0 = w1 at *
  clear o9 o0 o7 o1 t0
  unfold m__law_odd_word
  (apply Wp.w_fun; (focus (rfl; done)); (focus (((try simp only [List.cons_append, List.nil_append, List.length_cons, List.length_nil, Nat.reduceAdd, Nat.reduceSub, Nat.zero_add, Nat.sub_zero, List.replicate_succ, List.replicate_zero, List.append_nil]); rfl); done)))
  unfold b__law_odd_word
  repeat' decreasing_trivial_pre_omega
  clear r9 r0 r41 r7 g1
  have key : ∀ s ∈ odA ++ ([w9, w1, w41, w7] ++ odB) ++ odC ++ odD, TL0 4500 s := fun s hs => by
    simp only [List.mem_append] at hs
    have m := fun (h : s ∈ odA ∨ s ∈ odB ∨ s ∈ odC ∨ s ∈ odD) => od_tl (s := s) (by simp only [List.mem_append]; rcases h with h | h | h | h <;> simp [h])
    rcases hs with ((hs | hs | hs) | hs) | hs
    · exact m (.inl hs)
    · simp only [List.mem_cons, List.not_mem_nil, or_false] at hs
      rcases hs with rfl | rfl | rfl | rfl
      · exact t9.mono (by omega)
      · exact t1
      · exact t41.mono (by omega)
      · exact t7.mono (by omega)
    · exact m (.inr (.inl hs))
    · exact m (.inr (.inr (.inl hs)))
    · exact m (.inr (.inr (.inr hs)))
  have pk := fun k (hk : k < (odA ++ ([w9, w1, w41, w7] ++ odB) ++ odC ++ odD).length) => pick_str hk key
  show W (m__law_draw [.ow true (.l (dkT D)), .v (.int (((odA ++ ([w9, w1, w41, w7] ++ odB) ++ odC ++ odD).map PyData.str).length : Int))]) (KBack [.s 0, .r (.int (((odA ++ ([w9, w1, w41, w7] ++ odB) ++ odC ++ odD).map PyData.str).length : Int))] [.ow true (.l (dkT D)), .ow false (.l ((odA ++ ([w9, w1, w41, w7] ++ odB) ++ odC ++ odD).map PyData.str))] (KTwo2 (.s 1) gIx (KRet (KFun [.ow true (.l (dkT D))] fun r e => ∃ (D' : Dk) (y : Str), D'.c ≤ D.c + 1 ∧ TL0 4500 y ∧ r = .r (.str y) ∧ e = [.ow true (.l (dkT D'))]))))
  have hn : (odA ++ ([w9, w1, w41, w7] ++ odB) ++ odC ++ odD).length = 50 := rfl
  clear key t9 t1 t41 t7
  generalize odA ++ ([w9, w1, w41, w7] ++ odB) ++ odC ++ odD = ss at *
  have hlm : (ss.map PyData.str).length = 50 := by rw [List.length_map]; exact hn
  rw [hlm]
  refine w_imp (drw_w D 50 (by decide) (by decide) (by omega)) ?_
  rintro _ _ ⟨k, D1, hk, hc1, rfl, rfl⟩
  obtain ⟨s, hs, ts⟩ := pk k (by omega)
  clear pk
  repeat' decreasing_trivial_pre_omega
  exact ⟨D1, s, by omega, ts, rfl, rfl⟩
theorem ix_last {ps : List Str} (h : 0 < ps.length) : ∃ p ∈ ps, gIx (.list (ps.map PyData.str)) (.int (-1)) = some (.r (.str p)) := by
  refine ⟨ps[ps.length - 1], List.getElem_mem _, ?_⟩
  have hx : L2.ixN (ps.map PyData.str).length (-1) = some (ps.length - 1) := by
    unfold L2.ixN
    rw [List.length_map, if_neg (by decide), if_pos (by omega)]
    congr 1
    omega
  show (L2.atI (ps.map PyData.str) (-1)).map Od.r = _
  unfold L2.atI
  rw [hx]
  show ((ps.map PyData.str)[ps.length - 1]?).map Od.r = _
  rw [ixS (by omega)]
  rfl

set_option linter.all false
set_option maxRecDepth 100000
set_option maxHeartbeats 4000000
open PySem PySem.Spec Ev Pu Mt Wp
theorem da_in (s : Str) : gInS (.str "-") (.str s) = some (.r (.bool (decide (45 ∈ tl s)))) := by
  have e : (("-" : Str).cps.toList) = [45] := tl_da
  simp only [gInS, e]
theorem met_w (D : Dk) (s : Str) (L : Nat) (h : TL0 L s) (hL : L ≤ 1000000) (hc : D.c + 1 ≤ 10 ^ 9) : W (m__law_met [.ow true (.l (dkT D)), .v (.str s)]) fun r e => ∃ (D' : Dk) (z : Str), D'.c ≤ D.c + 1 ∧ TL0 (4 * L + 5000) z ∧ r = .r (.str z) ∧ e = [.ow true (.l (dkT D')), .v (.str s)] := by
  obtain ⟨ps, sf, hn, tot, each⟩ := parts_of (y := " ") h (by omega) l_sp
  have h1s : (" " : Str).length = 1 := by decide +kernel
  rw [h1s] at tot
  have hlm : (ps.map PyData.str).length = ps.length := List.length_map ..
  have ok : ∀ p ∈ ps, PyData.strOk p = true := fun p hp => (each p hp).ok
  have okb : PyData.strOk (" " : Str) = true := ok_of _
  have gd := da_in s
  generalize decide (45 ∈ tl s) = b at gd
  -- what a changed list of words is joined to
  have fin : ∀ qs : List Str, (∀ p ∈ qs, PyData.strOk p = true) → sumL qs + qs.length * 1 ≤ 4 * L + 5000 → (strsOf (qs.map PyData.str) = some qs ∧ (qs.map (·.length)).sum + qs.length * (" " : Str).length ≤ 16777216) ∧ TL0 (4 * L + 5000) (Txt.join " " qs) := fun qs h1 h2 => join_w okb h1 (by rw [h1s]; exact h2) (by omega)
  unfold m__law_met
  (apply Wp.w_fun; (focus (rfl; done)); (focus (((try simp only [List.cons_append, List.nil_append, List.length_cons, List.length_nil, Nat.reduceAdd, Nat.reduceSub, Nat.zero_add, Nat.sub_zero, List.replicate_succ, List.replicate_zero, List.append_nil]); rfl); done)))
  unfold b__law_met
  repeat' decreasing_trivial_pre_omega
  rw [hlm]
  refine w_imp (drw_w D ps.length hn (by omega) (by omega)) ?_
  rintro _ _ ⟨i, D1, hi, hc1, rfl, rfl⟩
  clear sf
  repeat' decreasing_trivial_pre_omega
  have iI : i < (ps.map PyData.str).length := by rw [hlm]; exact hi
  have same : W (sRet (eJoin (eK (.str " ")) (eVar 2)) [.ow true (.l (dkT D1)), .v (.str s), .ow false (.l (ps.map PyData.str)), .v (nT i)]) (KFun [.ow true (.l (dkT D)), .v (.str s)] fun r e => ∃ (D' : Dk) (z : Str), D'.c ≤ D.c + 1 ∧ TL0 (4 * L + 5000) z ∧ r = .r (.str z) ∧ e = [.ow true (.l (dkT D')), .v (.str s)]) := by
    obtain ⟨⟨q2, q3⟩, tz⟩ := fin ps ok (by omega)
    clear fin gd
    repeat' decreasing_trivial_pre_omega
    exact ⟨D1, _, by omega, tz, rfl, rfl⟩
  have other : ∀ z : Str, TL0 (2 * L + 1) z → (strsOf ((ps.map PyData.str).set i (.str z)) = some (ps.set i z) ∧ ((ps.set i z).map (·.length)).sum + (ps.set i z).length * (" " : Str).length ≤ 16777216) ∧ TL0 (4 * L + 5000) (Txt.join " " (ps.set i z)) := fun z hz => by
    have q := fin (ps.set i z) (fun p hp => by
      rcases List.mem_or_eq_of_mem_set hp with hp | rfl
      · exact ok p hp
      · exact hz.ok) (by
      have := sumL_set z ps i
      have := hz.len
      rw [List.length_set]
      omega)
    rw [List.map_set] at q
    exact q
  clear fin
  have second : W (sIf (tb (eOp2 gGt (eVar 3) (eK (.int 1)))) (sSetIx 2 (eVar 3) (eOp2 gIx (eVar 2) (eOp2 gSub (eVar 3) (eK (.int 2))))) sNil [.ow true (.l (dkT D1)), .v (.str s), .ow false (.l (ps.map PyData.str)), .v (nT i)])
      (KSeq (sRet (eJoin (eK (.str " ")) (eVar 2))) (KFun [.ow true (.l (dkT D)), .v (.str s)] fun r e => ∃ (D' : Dk) (z : Str), D'.c ≤ D.c + 1 ∧ TL0 (4 * L + 5000) z ∧ r = .r (.str z) ∧ e = [.ow true (.l (dkT D')), .v (.str s)])) := by
    clear gd
    refine w_if ?_
    repeat' decreasing_trivial_pre_omega
    refine kif_d (fun h1 => ?_) fun h1 => ?_
    · have gs : gSub (nT i) (.int 2) = some (.r (nT (i - 2))) := by
        show some (Od.r (PyData.int ((i : Int) - 2))) = _
        rw [show (i : Int) - 2 = ((i - 2 : Nat) : Int) by omega]
      have x2 := ixS (ps := ps) (k := i - 2) (by omega)
      have t2 := each _ (List.getElem_mem (l := ps) (n := i - 2) (by omega))
      generalize ps[i - 2] = z at x2 t2
      obtain ⟨⟨q2, q3⟩, tz⟩ := other z (t2.mono (by omega))
      clear other same
      repeat' decreasing_trivial_pre_omega
      exact ⟨D1, _, by omega, tz, rfl, rfl⟩
    · clear other
      refine w_nil (kseq_nx same)
  by_cases h0 : 0 < i
  · refine kand_t (decide_eq_true (by omega)) ?_
    clear same
    repeat' decreasing_trivial_pre_omega
    cases b with
    | false =>
      refine kif_f rfl ?_
      exact second
    | true =>
      refine kif_t rfl ?_
      clear second
      have gs : gSub (nT i) (.int 1) = some (.r (nT (i - 1))) := by
        show some (Od.r (PyData.int ((i : Int) - 1))) = _
        rw [show (i : Int) - 1 = ((i - 1 : Nat) : Int) by omega]
      have x1 := ixS (ps := ps) (k := i - 1) (by omega)
      have t1 := each _ (List.getElem_mem (l := ps) (n := i - 1) (by omega))
      have x2 := ixS (ps := ps) (k := i) hi
      have t2 := each _ (List.getElem_mem (l := ps) (n := i) hi)
      generalize ps[i - 1] = u at x1 t1
      generalize ps[i] = v at x2 t2
      obtain ⟨us, f1, n1, _, e1⟩ := parts_of (y := "-") t1 (by omega) l_da
      obtain ⟨vs, f2, n2, _, e2⟩ := parts_of (y := "-") t2 (by omega) l_da
      obtain ⟨p, hp, g1⟩ := ix_last n1
      obtain ⟨q, hq, g2⟩ := ix_last n2
      have tp := e1 p hp
      have tq := e2 q hq
      have td : TL0 1 ("-" : Str) := ⟨by decide +kernel, ok_of _⟩
      have a1 : gAdd (.str p) (.str "-") = some (.r (.str (p ++ ("-" : Str)))) := gAdd_ss (by have := tp.len; have := td.len; unfold sizeLine; omega)
      have a2 : gAdd (.str (p ++ ("-" : Str))) (.str q) = some (.r (.str (p ++ ("-" : Str) ++ q))) := gAdd_ss (by rw [app_len]; have := tp.len; have := td.len; have := tq.len; unfold sizeLine; omega)
      have tz : TL0 (2 * L + 1) (p ++ ("-" : Str) ++ q) := ((tp.app td).app tq).mono (by omega)
      obtain ⟨⟨q2, q3⟩, tz⟩ := other _ tz
      generalize p ++ ("-" : Str) ++ q = z at a2 q2 q3 tz
      generalize p ++ ("-" : Str) = w at a1 a2
      clear other gd
      repeat' decreasing_trivial_pre_omega
      exact ⟨D1, _, by omega, tz, rfl, rfl⟩
  · refine kand_f (decide_eq_false (by omega)) ?_
    exact kif_f rfl second

set_option linter.all false
set_option maxRecDepth 100000
set_option maxHeartbeats 4000000
open PySem PySem.Spec Ev Pu Mt Wp
def BendQ (D : Dk) (s0 : Sl) (L : Nat) : Fl → En → Prop := fun fl e => fl = .nx ∧ ∃ (D' : Dk) (z : Str) (s3 s4 : Sl), (lentS s3 = false ∧ lentS s4 = false) ∧ D'.c ≤ D.c + 6 ∧ TL0 (4 * L + 5000) z ∧ e = [.ow true (.l (dkT D')), .v (.str z), s0, s3, s4]
theorem bend_w (D : Dk) (s : Str) (L : Nat) (s2 s3 s4 : Sl) (h : TL0 L s) (hL : L ≤ 1000000) (hc : D.c + 6 ≤ 10 ^ 9) (a3 : lentS s3 = false) (a4 : lentS s4 = false) : W (y1__law_bent [.ow true (.l (dkT D)), .v (.str s), s2, s3, s4]) (BendQ D s2 L) := by
  have y1 : ((" " : Str).length == 0) = false ∧ (" " : Str).length ≤ 2 ∧ PyData.strOk (" " : Str) = true := by decide +kernel
  have y2 : ((", " : Str).length == 0) = false ∧ (", " : Str).length ≤ 2 ∧ PyData.strOk (", " : Str) = true := by decide +kernel
  have y3 : (("-" : Str).length == 0) = false ∧ ("-" : Str).length ≤ 2 ∧ PyData.strOk ("-" : Str) = true := by decide +kernel
  unfold y1__law_bent
  repeat' decreasing_trivial_pre_omega
  refine w_imp (drw_w D 10 (by decide) (by decide) (by omega)) ?_
  rintro _ _ ⟨way, D1, hw, hc1, rfl, rfl⟩
  repeat' decreasing_trivial_pre_omega
  refine kif_d (fun h0 => ?_) fun h0 => ?_
  · repeat' decreasing_trivial_pre_omega
    refine w_imp (signs_w D1 s L h hL (by omega)) ?_
    rintro _ _ ⟨D2, z, hc2, tz, rfl, rfl⟩
    repeat' decreasing_trivial_pre_omega
    exact ⟨rfl, D2, z, _, s4, ⟨rfl, a4⟩, by omega, tz, rfl⟩
  · repeat' decreasing_trivial_pre_omega
    refine kif_d (fun h1 => ?_) fun h1 => ?_
    · repeat' decreasing_trivial_pre_omega
      refine w_imp (met_w D1 s L h hL (by omega)) ?_
      rintro _ _ ⟨D2, z, hc2, tz, rfl, rfl⟩
      repeat' decreasing_trivial_pre_omega
      exact ⟨rfl, D2, z, _, s4, ⟨rfl, a4⟩, by omega, tz, rfl⟩
    · repeat' decreasing_trivial_pre_omega
      refine kif_d (fun h2 => ?_) fun h2 => ?_
      · repeat' decreasing_trivial_pre_omega
        refine w_imp (odd_w D1 (by omega)) ?_
        rintro _ _ ⟨D2, o, hc2, to, rfl, rfl⟩
        repeat' decreasing_trivial_pre_omega
        refine w_imp (bparts_w D2 s " " o L h hL y1 to (by omega)) ?_
        rintro _ _ ⟨D3, z, hc3, tz, rfl, rfl⟩
        repeat' decreasing_trivial_pre_omega
        exact ⟨rfl, D3, z, _, s4, ⟨rfl, a4⟩, by omega, tz, rfl⟩
      · repeat' decreasing_trivial_pre_omega
        refine kif_d (fun h3 => ?_) fun h3 => ?_
        · repeat' decreasing_trivial_pre_omega
          refine w_imp (drw_w D1 6 (by decide) (by decide) (by omega)) ?_
          rintro _ _ ⟨k, D2, hk, hc2, rfl, rfl⟩
          obtain ⟨o, ho, to⟩ := pick_str (n := 4500) (ss := ["", "0 0 0", "4 0 0", "0 2 0", "1 1 2", "3 1 1"]) (k := k) hk (fun s hs => by
            have : ((["", "0 0 0", "4 0 0", "0 2 0", "1 1 2", "3 1 1"] : List Str).all fun s => decide (s.length ≤ 4500) && PyData.strOk s) = true := by decide +kernel
            have := List.all_eq_true.mp this s hs
            rw [Bool.and_eq_true] at this
            exact ⟨of_decide_eq_true this.1, this.2⟩)
          simp only [List.map_cons, List.map_nil] at ho
          repeat' decreasing_trivial_pre_omega
          refine w_imp (bparts_w D2 s ", " o L h hL y2 to (by omega)) ?_
          rintro _ _ ⟨D3, z, hc3, tz, rfl, rfl⟩
          repeat' decreasing_trivial_pre_omega
          exact ⟨rfl, D3, z, _, _, ⟨rfl, rfl⟩, by omega, tz, rfl⟩
        · repeat' decreasing_trivial_pre_omega
          refine kif_d (fun h4 => ?_) fun h4 => ?_
          · repeat' decreasing_trivial_pre_omega
            refine w_imp (drw_w D1 5 (by decide) (by decide) (by omega)) ?_
            rintro _ _ ⟨k, D2, hk, hc2, rfl, rfl⟩
            obtain ⟨o, ho, to⟩ := pick_str (n := 4500) (ss := ["", "1", "0", " ", "2 3"]) (k := k) hk (fun s hs => by
              have : ((["", "1", "0", " ", "2 3"] : List Str).all fun s => decide (s.length ≤ 4500) && PyData.strOk s) = true := by decide +kernel
              have := List.all_eq_true.mp this s hs
              rw [Bool.and_eq_true] at this
              exact ⟨of_decide_eq_true this.1, this.2⟩)
            simp only [List.map_cons, List.map_nil] at ho
            repeat' decreasing_trivial_pre_omega
            refine w_imp (bparts_w D2 s "-" o L h hL y3 to (by omega)) ?_
            rintro _ _ ⟨D3, z, hc3, tz, rfl, rfl⟩
            repeat' decreasing_trivial_pre_omega
            exact ⟨rfl, D3, z, _, s4, ⟨rfl, a4⟩, by omega, tz, rfl⟩
          · have hl := h.len
            have hsl : s.length ≤ sizeLine := by unfold sizeLine; omega
            have tn : TL0 1 ("\n" : Str) := ⟨by decide +kernel, ok_of _⟩
            have g1 : gAdd (.str s) (.str "\n") = some (.r (.str (s ++ ("\n" : Str)))) := gAdd_ss (by have := tn.len; unfold sizeLine; omega)
            have t1 := h.app tn
            generalize s ++ ("\n" : Str) = w at g1 t1
            have tc := cut_tl h none (some 3)
            generalize hcut : L2.cutS s none (some 3) = cc at tc
            repeat' decreasing_trivial_pre_omega
            rw [hcut]
            refine w_imp (drw_w D1 6 (by decide) (by decide) (by omega)) ?_
            rintro _ _ ⟨k, D2, hk, hc2, rfl, rfl⟩
            obtain ⟨o, ho, to⟩ : ∃ o, [PyData.str "", PyData.str "0", PyData.str " ", PyData.str cc, PyData.str "\n", PyData.str "1 2"][k]? = some (.str o) ∧ TL0 (L + 10) o := by
              match k, hk with
              | 0, _ => exact ⟨_, rfl, lit_tl "" (Nat.le_trans (show (Str.ofString "").length ≤ 10 by decide +kernel) (by omega))⟩
              | 1, _ => exact ⟨_, rfl, lit_tl "0" (Nat.le_trans (show (Str.ofString "0").length ≤ 10 by decide +kernel) (by omega))⟩
              | 2, _ => exact ⟨_, rfl, lit_tl " " (Nat.le_trans (show (Str.ofString " ").length ≤ 10 by decide +kernel) (by omega))⟩
              | 3, _ => exact ⟨cc, rfl, tc.mono (by omega)⟩
              | 4, _ => exact ⟨_, rfl, lit_tl "\n" (Nat.le_trans (show (Str.ofString "\n").length ≤ 10 by decide +kernel) (by omega))⟩
              | 5, _ => exact ⟨_, rfl, lit_tl "1 2" (Nat.le_trans (show (Str.ofString "1 2").length ≤ 10 by decide +kernel) (by omega))⟩
              | k + 6, hw => omega
            have g2 : gAdd (.str w) (.str o) = some (.r (.str (w ++ o))) := gAdd_ss (by have := t1.len; have := to.len; unfold sizeLine; omega)
            have tz := (t1.app to).mono (show L + 1 + (L + 10) ≤ 4 * L + 5000 by omega)
            generalize w ++ o = z at g2 tz
            clear hcut
            repeat' decreasing_trivial_pre_omega
            exact ⟨rfl, D2, z, _, s4, ⟨rfl, a4⟩, by omega, tz, rfl⟩
def Bd3 : Nat → Nat
  | 0 => 12000
  | k + 1 => 4 * Bd3 k + 5000
theorem bd3 : ∀ k, k ≤ 3 → Bd3 k ≤ 900000
  | 0, _ => by decide
  | 1, _ => by decide
  | 2, _ => by decide
  | 3, _ => by decide
  | k + 4, h => by omega
theorem bent_w (D : Dk) (s : Str) (h : TL0 12000 s) (hc : D.c + 30 ≤ 10 ^ 9) : W (m__law_bent [.ow true (.l (dkT D)), .v (.str s)]) fun r e => ∃ (D' : Dk) (z : Str), D'.c ≤ D.c + 30 ∧ TL0 900000 z ∧ r = .r (.str z) ∧ e = [.ow true (.l (dkT D')), .v (.str s)] := by
  unfold m__law_bent
  (apply Wp.w_fun; (focus (rfl; done)); (focus (((try simp only [List.cons_append, List.nil_append, List.length_cons, List.length_nil, Nat.reduceAdd, Nat.reduceSub, Nat.zero_add, Nat.sub_zero, List.replicate_succ, List.replicate_zero, List.append_nil]); rfl); done)))
  unfold b__law_bent l1__law_bent
  repeat' decreasing_trivial_pre_omega
  refine w_imp (drw_w D 6 (by decide) (by decide) (by omega)) ?_
  rintro _ _ ⟨k, D1, hk, hc1, rfl, rfl⟩
  obtain ⟨n, hx, hn⟩ : ∃ n : Nat, [PyData.int 0, PyData.int 1, PyData.int 1, PyData.int 1, PyData.int 2, PyData.int 3][k]? = some (nT n) ∧ n ≤ 3 := by
    match k, hk with
    | 0, _ => exact ⟨0, rfl, by decide⟩
    | 1, _ => exact ⟨1, rfl, by decide⟩
    | 2, _ => exact ⟨1, rfl, by decide⟩
    | 3, _ => exact ⟨1, rfl, by decide⟩
    | 4, _ => exact ⟨2, rfl, by decide⟩
    | 5, _ => exact ⟨3, rfl, by decide⟩
    | k + 6, hw => omega
  repeat' decreasing_trivial_pre_omega
  refine kr1 (n := n) rfl (by omega) ?_
  refine for_below (fun k e => ∃ (D' : Dk) (z : Str) (s2 s3 s4 : Sl), (lentS s2 = false ∧ lentS s3 = false ∧ lentS s4 = false) ∧ D'.c ≤ D1.c + k * 6 ∧ TL0 (Bd3 k) z ∧ e = [.ow true (.l (dkT D')), .v (.str z), s2, s3, s4]) ⟨D1, s, .un, .un, .un, ⟨rfl, rfl, rfl⟩, by omega, h, rfl⟩ ?_ ?_
  · rintro j hj e ⟨D', z, s2, s3, s4, ⟨a2, a3, a4⟩, h1, h2, rfl⟩
    refine ⟨_, gN_ok (by first | rfl | exact Wp.isLent_of rfl (by assumption)) rfl, ?_⟩
    have hb := bd3 j (by omega)
    refine w_imp (bend_w D' z (Bd3 j) (.v (nT j)) s3 s4 h2 (by omega) (by omega) a3 a4) ?_
    rintro _ _ ⟨rfl, D2, z2, s3, s4, ⟨a3, a4⟩, h3, tz, rfl⟩
    refine kturn_nx ?_
    exact ⟨D2, z2, .v (nT j), s3, s4, ⟨rfl, a3, a4⟩, by omega, tz, rfl⟩
  · rintro e ⟨D', z, s2, s3, s4, ⟨a2, a3, a4⟩, h1, h2, rfl⟩
    have tz := h2.mono (bd3 n hn)
    repeat' decreasing_trivial_pre_omega
    exact ⟨D', z, by omega, tz, rfl, rfl⟩

set_option linter.all false
set_option maxRecDepth 100000
set_option maxHeartbeats 4000000
open PySem PySem.Spec Ev Pu Mt Wp
theorem sub_ok {x : Str} (h : PyData.strOk x = true) (i j : Nat) : PyData.strOk (Builtin.Str.strSub x i j) = true := by
  unfold PyData.strOk
  rw [← Array.all_toList]
  refine List.all_eq_true.mpr fun c hc => ?_
  have hc : c ∈ (Builtin.Str.strSub x i j).cps.toList := hc
  rw [StrLaws.strSub_toList] at hc
  exact decide_eq_true (ok_mem h (List.mem_of_mem_drop (List.mem_of_mem_take hc)))
theorem repl_tx {x y z : Str} (h : TL0 900000 x) (hz : TL0 3 z) : Tx (Txt.replace x y z) := by
  refine ⟨?_, ?_⟩
  · have h1 := TK.replace_len x y z
    have h2 := h.len
    have h3 : (x.length + 1) * z.length ≤ 900001 * 3 := Nat.mul_le_mul (by omega) hz.len
    omega
  · unfold Txt.replace
    split
    · exact h.ok
    · rw [StrLaws.glued_eq_join]
      refine ok_sjoin hz.ok _ fun p hp => ?_
      unfold Builtin.Str.partsBetween at hp
      obtain ⟨q, _, rfl⟩ := List.mem_map.mp hp
      exact sub_ok h.ok _ _
theorem door_w (D : Dk) (k dg : Nat) (hk : k < 4) (hd : 4 ≤ dg ∧ dg ≤ 40) (hc : D.c + 2000 ≤ 10 ^ 9) : W (m__law_door [.ow true (.l (dkT D)), .v (nT k), .v (nT dg), .v (.int 15)]) (DoorQ D k dg) := by
  match k, hk with
  | 0, _ => exact door0 D dg hd hc
  | 1, _ => exact door1 D dg hd hc
  | 2, _ => exact door2 D dg hd hc
  | 3, _ => exact door3 D dg hc
  | k + 4, h => omega
structure Rw where
  d : Nat
  y : Str
  hd : d < 4
  th : Tx y
def rT (r : Rw) : T := .tuple [nT r.d, .str r.y, dueT r.d r.y]
theorem law_n (m : Nat) : ∃ n : Nat, n ≤ 6 ∧ (if (if (m : Int) < 6 then (m : Int) else 6) > 1 then (if (m : Int) < 6 then (m : Int) else 6) else 1) = (n : Int) := by
  by_cases h : (m : Int) < 6
  · rw [if_pos h]
    by_cases h2 : (m : Int) > 1
    · rw [if_pos h2]; exact ⟨m, by omega, rfl⟩
    · rw [if_neg h2]; exact ⟨1, by omega, rfl⟩
  · rw [if_neg h, if_pos (by decide)]
    exact ⟨6, by omega, rfl⟩
theorem turn3 (r : Rw) (s0 s1 s2 s3 s4 : Sl) : W (y3_law [s0, s1, s2, s3, s4, .v (.str r.y), .v (nT r.d), .v (dueT r.d r.y)]) fun fl e => fl = .nx ∧ e = [s0, s1, s2, s3, s4, .v (.str r.y), .v (nT r.d), .v (dueT r.d r.y)] := by
  have hf : r.y.length ≤ sizeLine := by have := r.th.fit; omega
  have t := law_told r.hd r.th
  have s := due_same r.d r.th
  generalize dueT r.d r.y = u at *
  unfold y3_law
  repeat' decreasing_trivial_pre_omega
  refine w_imp (t _) ?_
  rintro _ _ ⟨rfl, rfl⟩
  clear t
  repeat' decreasing_trivial_pre_omega
  refine w_of s ?_
  clear s
  repeat' decreasing_trivial_pre_omega
  exact ⟨rfl, rfl⟩
theorem turn1 (ns : List Int) (p : Nat) (D : Dk) (k : Nat) (hk : k < 4) (hD : D.c + 2100 ≤ 10 ^ 9) (rs : List Rw) (hrs : rs.length < 36) (s5 s6 s7 : Sl) (a5 : lentS s5 = false) (a6 : lentS s6 = false) (a7 : lentS s7 = false) :
    W (y1_law [.v (scT ns), .ow false (.l (rs.map rT)), .v (nT p), .ow false (.l (dkT D)), .v (nT k), s5, s6, s7]) fun fl e => fl = .nx ∧ ∃ (D' : Dk) (r : Rw) (s5 s6 s7 : Sl), (lentS s5 = false ∧ lentS s6 = false ∧ lentS s7 = false) ∧ D'.c ≤ D.c + 2100 ∧ e = [.v (scT ns), .ow false (.l ((rs ++ [r]).map rT)), .v (nT p), .ow false (.l (dkT D')), .v (nT k), s5, s6, s7] := by
  have ha : (rs.map rT).length < sizeLine := by rw [List.length_map]; unfold sizeLine; omega
  have hra : ∀ r : Rw, rs.map rT ++ [rT r] = (rs ++ [r]).map rT := fun r => by rw [List.map_append]; rfl
  generalize rs.map rT = xs at ha hra ⊢
  -- behind the text
  have rest : ∀ (D1 : Dk) (z : Str), Tx z → D1.c ≤ D.c + 2050 → W (sSeq (sSet 6 (eIf (tb (eOp2 gGt (eCall 2 m__law_draw (aCons (eVar 3) (aCons (eK (.int 4)) aNil))) (eK (.int 0)))) (eVar 4) (eCall 2 m__law_draw (aCons (eVar 3) (aCons (eK (.int 4)) aNil))))) ((sSeq (sSet 7 (eCall 2 m__law_due (aCons (eVar 6) (aCons (eVar 5) aNil)))) (sSeq (sIf (tNot (tb (eCall 2 (m__law_same 8) (aCons (eCall 3 m__law_told (aCons (eVar 6) (aCons (eVar 5) (aCons (eOp2 (gEq id) (eCall 2 m__law_draw (aCons (eVar 3) (aCons (eK (.int 2)) aNil))) (eK (.int 0))) aNil)))) (aCons (eVar 7) aNil))))) (sRet (eK (.bool false))) sNil) (sDrop (eMut 1 gAppend (aCons (eTup (aCons (eVar 6) (aCons (eVar 5) (aCons (eVar 7) aNil)))) aNil)))))) [.v (scT ns), .ow false (.l xs), .v (nT p), .ow false (.l (dkT D1)), .v (nT k), .v (.str z), s6, s7]) fun fl e => fl = .nx ∧ ∃ (D' : Dk) (r : Rw) (s5 s6 s7 : Sl), (lentS s5 = false ∧ lentS s6 = false ∧ lentS s7 = false) ∧ D'.c ≤ D.c + 2100 ∧ e = [.v (scT ns), .ow false (.l ((rs ++ [r]).map rT)), .v (nT p), .ow false (.l (dkT D')), .v (nT k), s5, s6, s7] := by
    intro D1 z tz hc1
    refine w_seq ?_
    refine w_set ?_
    refine w_imp (P := fun r e => ∃ (D2 : Dk) (d : Nat), D2.c ≤ D1.c + 2 ∧ d < 4 ∧ r = .r (nT d) ∧ e = [.v (scT ns), .ow false (.l xs), .v (nT p), .ow false (.l (dkT D2)), .v (nT k), .v (.str z), s6, s7]) ?_ ?_
    · repeat' decreasing_trivial_pre_omega
      refine w_imp (drw_w D1 4 (by decide) (by decide) (by omega)) ?_
      rintro _ _ ⟨v, D2, hv, hc2, rfl, rfl⟩
      repeat' decreasing_trivial_pre_omega
      refine kife_d (fun h0 => ?_) fun h0 => ?_
      · repeat' decreasing_trivial_pre_omega
        exact ⟨D2, k, by omega, hk, rfl, rfl⟩
      · repeat' decreasing_trivial_pre_omega
        refine w_imp (drw_w D2 4 (by decide) (by decide) (by omega)) ?_
        rintro _ _ ⟨d, D3, hd, hc3, rfl, rfl⟩
        repeat' decreasing_trivial_pre_omega
        exact ⟨D3, d, by omega, hd, rfl, rfl⟩
    · rintro _ _ ⟨D2, d, hc2, hd, rfl, rfl⟩
      have q1 := law_due hd tz
      have q2 := law_told hd tz
      have q3 := due_same d tz
      have hr := hra ⟨d, z, hd, tz⟩
      have hr : xs ++ [.tuple [nT d, .str z, dueT d z]] = (rs ++ [(⟨d, z, hd, tz⟩ : Rw)]).map rT := hr
      generalize dueT d z = u at q1 q2 q3 hr
      clear hra
      repeat' decreasing_trivial_pre_omega
      refine w_imp q1 ?_
      rintro _ _ ⟨rfl, rfl⟩
      clear q1
      repeat' decreasing_trivial_pre_omega
      refine w_imp (drw_w D2 2 (by decide) (by decide) (by omega)) ?_
      rintro _ _ ⟨b, D3, hb, hc3, rfl, rfl⟩
      repeat' decreasing_trivial_pre_omega
      refine w_imp (q2 _) ?_
      rintro _ _ ⟨rfl, rfl⟩
      clear q2
      repeat' decreasing_trivial_pre_omega
      refine w_of q3 ?_
      clear q3
      repeat' decreasing_trivial_pre_omega
      exact ⟨rfl, D3, ⟨d, z, hd, tz⟩, .v (.str z), .v (nT d), .v u, ⟨rfl, rfl, rfl⟩, by omega, by rw [← hr]; rfl⟩
  clear hra ha
  unfold y1_law
  refine w_seq (w_imp (P := fun fl e => fl = .nx ∧ ∃ (D1 : Dk) (z : Str), TL0 900000 z ∧ D1.c ≤ D.c + 2040 ∧ e = [.v (scT ns), .ow false (.l xs), .v (nT p), .ow false (.l (dkT D1)), .v (nT k), .v (.str z), s6, s7]) ?_ ?_)
  · clear rest
    repeat' decreasing_trivial_pre_omega
    refine w_imp (drw_w D 2 (by decide) (by decide) (by omega)) ?_
    rintro _ _ ⟨j, D1, hj, hc1, rfl, rfl⟩
    obtain ⟨dg, hx, hdg⟩ : ∃ n : Nat, [PyData.int 4, PyData.int 40][j]? = some (nT n) ∧ 4 ≤ n ∧ n ≤ 40 := by
      match j, hj with
      | 0, _ => exact ⟨4, rfl, by decide, by decide⟩
      | 1, _ => exact ⟨40, rfl, by decide, by decide⟩
      | k + 2, hw => omega
    repeat' decreasing_trivial_pre_omega
    refine w_imp (door_w D1 k dg hk hdg (by omega)) ?_
    rintro _ _ ⟨D2, t, y, hc2, ty, rfl, rfl⟩
    have gi : gIx (.tuple [t, .str y]) (.int 1) = some (.r (.str y)) := rfl
    repeat' decreasing_trivial_pre_omega
    refine w_imp (bent_w D2 y ty (by omega)) ?_
    rintro _ _ ⟨D3, z, hc3, tz, rfl, rfl⟩
    clear gi
    repeat' decreasing_trivial_pre_omega
    exact ⟨rfl, D3, z, tz, by omega, rfl⟩
  · rintro _ _ ⟨rfl, D1, z, tz, hc1, rfl⟩
    refine kseq_nx ?_
    refine w_seq (w_imp (P := fun fl e => fl = .nx ∧ ∃ (D2 : Dk) (z : Str), Tx z ∧ D2.c ≤ D1.c + 2 ∧ e = [.v (scT ns), .ow false (.l xs), .v (nT p), .ow false (.l (dkT D2)), .v (nT k), .v (.str z), s6, s7]) ?_ ?_)
    · clear rest
      have t0 : Tx z := ⟨by have := tz.len; omega, tz.ok⟩
      repeat' decreasing_trivial_pre_omega
      by_cases h3 : (k : Int) = 3
      · refine kand_t (decide_eq_true h3) ?_
        repeat' decreasing_trivial_pre_omega
        refine w_imp (drw_w D1 12 (by decide) (by decide) (by omega)) ?_
        rintro _ _ ⟨v, D2, hv, hc2, rfl, rfl⟩
        repeat' decreasing_trivial_pre_omega
        refine kif_d (fun h0 => ?_) fun h0 => ?_
        · repeat' decreasing_trivial_pre_omega
          refine w_imp (drw_w D2 3 (by decide) (by decide) (by omega)) ?_
          rintro _ _ ⟨j, D3, hj, hc3, rfl, rfl⟩
          obtain ⟨zz, hzz, hne, tzz⟩ : ∃ zz, ([",", " , ", ",  "] : List Str)[j]? = some zz ∧ ((", " : Str) == zz) = false ∧ TL0 3 zz := by
            match j, hj with
            | 0, _ => exact ⟨_, rfl, by decide +kernel, lit_tl "," (by decide +kernel)⟩
            | 1, _ => exact ⟨_, rfl, by decide +kernel, lit_tl " , " (by decide +kernel)⟩
            | 2, _ => exact ⟨_, rfl, by decide +kernel, lit_tl ",  " (by decide +kernel)⟩
            | k + 3, hw => omega
          have tr := repl_tx (y := ", ") tz tzz
          refine kback_r_n rfl ?_
          refine krepl2 (by have := tz.len; omega) hzz ⟨hne, by have := tzz.len; omega⟩ ?_
          generalize Txt.replace z ", " zz = z2 at tr ⊢
          repeat' decreasing_trivial_pre_omega
          exact ⟨rfl, D3, z2, tr, by omega, rfl⟩
        · repeat' decreasing_trivial_pre_omega
          exact ⟨rfl, D2, z, t0, by omega, rfl⟩
      · refine kand_f (decide_eq_false h3) ?_
        repeat' decreasing_trivial_pre_omega
        exact ⟨rfl, D1, z, t0, by omega, rfl⟩
    · rintro _ _ ⟨rfl, D2, z, tz, hc2, rfl⟩
      exact kseq_nx (rest D2 z tz (by omega))
theorem pure_law : ∀ ns : List Int, ns.length ≤ 63 → (∀ k ∈ ns, Builtin.Int.intBits k ≤ 1048576) → ∃ e', m_law [.v (.list (ns.map PyData.int))] = .ok (.r (.bool true)) e' := by
  intro ns hns hb
  suffices h : W (m_law [.v (scT ns)]) fun r e => r = .r (.bool true) by
    obtain ⟨r, e, h, rfl⟩ := h
    exact ⟨e, h⟩
  obtain ⟨n, hn6, hn⟩ := law_n (ns.map PyData.int).length
  unfold m_law
  (apply Wp.w_fun; (focus (rfl; done)); (focus (((try simp only [List.cons_append, List.nil_append, List.length_cons, List.length_nil, Nat.reduceAdd, Nat.reduceSub, Nat.zero_add, Nat.sub_zero, List.replicate_succ, List.replicate_zero, List.append_nil]); rfl); done)))
  unfold b_law l2_law
  repeat' decreasing_trivial_pre_omega
  refine kr1_eq n rfl hn (by omega) (for_below (fun p e => ∃ (rs : List Rw) (s2 s3 s4 s5 s6 s7 : Sl), (lentS s2 = false ∧ lentS s3 = false ∧ lentS s4 = false ∧ lentS s5 = false ∧ lentS s6 = false ∧ lentS s7 = false) ∧ rs.length = p * 5 ∧ e = [.v (scT ns), .ow false (.l (rs.map rT)), s2, s3, s4, s5, s6, s7]) ⟨[], .un, .un, .un, .un, .un, .un, ⟨rfl, rfl, rfl, rfl, rfl, rfl⟩, rfl, rfl⟩ ?_ ?_)
  · rintro p hp e ⟨rs, s2, s3, s4, s5, s6, s7, ⟨a2, a3, a4, a5, a6, a7⟩, h1, rfl⟩
    refine ⟨_, gN_ok (by first | rfl | exact Wp.isLent_of rfl (by assumption)) rfl, ?_⟩
    unfold y2_law
    repeat' decreasing_trivial_pre_omega
    refine w_imp (well_w ns hb hns p (by omega)) ?_
    rintro _ _ ⟨D, hD, rfl, rfl⟩
    unfold l1_law
    repeat' decreasing_trivial_pre_omega
    refine for_on_w (fun (n : Nat) => nT n) [0, 1, 2, 2, 3] (fun don e => ∃ (D' : Dk) (qs : List Rw) (s4 s5 s6 s7 : Sl), (lentS s4 = false ∧ lentS s5 = false ∧ lentS s6 = false ∧ lentS s7 = false) ∧ D'.c ≤ don.length * 2100 ∧ qs.length = p * 5 + don.length ∧ e = [.v (scT ns), .ow false (.l (qs.map rT)), .v (nT p), .ow false (.l (dkT D')), s4, s5, s6, s7]) ⟨D, rs, s4, s5, s6, s7, ⟨a4, a5, a6, a7⟩, by simp; omega, by simp; omega, rfl⟩ ?_ ?_
    · rintro don k rest hd e ⟨D', qs, s4, s5, s6, s7, ⟨a4, a5, a6, a7⟩, h2, h3, rfl⟩
      have hk : k < 4 := by
        have : k ∈ [0, 1, 2, 2, 3] := by rw [hd]; simp
        simp only [List.mem_cons, List.not_mem_nil, or_false] at this
        omega
      have hdl : don.length < 5 := by
        have := congrArg List.length hd
        simp at this
        omega
      refine ⟨_, gN_ok (by first | rfl | exact Wp.isLent_of rfl (by assumption)) rfl, ?_⟩
      refine w_imp (turn1 ns p D' k hk (by omega) qs (by omega) s5 s6 s7 a5 a6 a7) ?_
      rintro _ _ ⟨rfl, D2, r, s5, s6, s7, ⟨a5, a6, a7⟩, h4, rfl⟩
      refine kturn_nx ?_
      exact ⟨D2, qs ++ [r], .v (nT k), s5, s6, s7, ⟨rfl, a5, a6, a7⟩, by rw [List.length_append, List.length_singleton]; omega, by rw [List.length_append, List.length_append, h3]; simp; omega, rfl⟩
    · rintro e ⟨D', qs, s4, s5, s6, s7, ⟨a4, a5, a6, a7⟩, h2, h3, rfl⟩
      refine kturn_nx ?_
      exact ⟨qs, _, _, s4, s5, s6, s7, ⟨rfl, rfl, a4, a5, a6, a7⟩, by simp at h3; omega, rfl⟩
  · rintro e ⟨rs, s2, s3, s4, s5, s6, s7, ⟨a2, a3, a4, a5, a6, a7⟩, h1, rfl⟩
    unfold l3_law
    repeat' decreasing_trivial_pre_omega
    rw [← List.map_reverse]
    refine for_on_w rT rs.reverse (fun _ e => ∃ (s1 s5 s6 s7 : Sl), (lentS s5 = false ∧ lentS s6 = false ∧ lentS s7 = false) ∧ e = [.v (scT ns), s1, s2, s3, s4, s5, s6, s7]) ⟨_, s5, s6, s7, ⟨a5, a6, a7⟩, rfl⟩ ?_ ?_
    · rintro don r rest hx e ⟨s1, s5, s6, s7, ⟨a5, a6, a7⟩, rfl⟩
      refine ⟨[.v (scT ns), s1, s2, s3, s4, .v (.str r.y), .v (nT r.d), .v (dueT r.d r.y)], ?_, ?_⟩
      · unfold rT
        (first | rfl | (repeat' (first | refine Wp.gN_ok (by first | rfl | exact Wp.isLent_of rfl (by assumption)) rfl | refine Wp.gsNil_ok rfl | with_reducible apply Wp.gsCons_ok | apply Wp.gT_ok rfl)))
      refine w_imp (turn3 r _ _ _ _ _) ?_
      rintro _ _ ⟨rfl, rfl⟩
      refine kturn_nx ?_
      exact ⟨s1, _, _, _, ⟨rfl, rfl, rfl⟩, rfl⟩
    · rintro e ⟨s1, s5, s6, s7, ⟨a5, a6, a7⟩, rfl⟩
      repeat' decreasing_trivial_pre_omega
      rfl

end Lw
set_option maxHeartbeats 4000000
namespace Lw
open PySem PySem.Spec PyProof.Rows L2 Ev Lz
theorem facts {P : Program} {w : World} {K : PySem.W.Frag} {h : Heap} {mg : Str → Option Value} {f : Addr} (X : K.In h) (G : h.Ns mainGlobals mg) (hfa : mg ("law" : Str) = some (.ref f)) (c : He.SaysD fa fn K) (cx : Ev.exB (["ThreadError", "Unreadable"] : List Str) K = true) :
    ∃ fd : FuncData, (∀ (s : Shared) (v : Value), BindsTo s fd ⟨[v], []⟩ [("script", v)]) ∧ ∀ base : Heap, K.In base → base.Ns mainGlobals mg → FnOk P w K mg base CXE 10 f fd ["script"] (spF K 1 m_law) := by
  have e := hfa.symm.trans (He.glo_ok X G (c.fact 41 (f := .glo "law") rfl))
  cases e
  obtain ⟨fd, F⟩ := c.def_ 41 (d := d_law) rfl
  have F : FunD K "law" "law" (defArgs s_law) (defBody s_law) (defScope s_law) [] [] (He.ga K "law") fd := F
  have b := FunD.bindsA (ps := ["script"]) F fun _ _ _ _ _ _ us hl => match us, hl with | [_], _ => rfl
  refine ⟨fd, fun s v => b s [v] rfl, fun base _ _ => ?_⟩
  obtain ⟨fd', F', O⟩ := ok_law (P := P) (w := w) (base := base) X G c cx
  have ee : fd = fd' := by
    obtain ⟨_, _, _, _, _, _, _, _, _, _, e1, l1, _⟩ := F.ex
    obtain ⟨_, _, _, _, _, _, _, _, _, _, e2, l2, _⟩ := F'.ex
    rw [l1] at l2
    cases l2
    rfl
  rw [ee]
  exact fnok_cx O
end Lw
open PySem PySem.W PySem.Calls PyProof.Rows
theorem PySem.Challenge.cw_squarethreads_k46_whole_lines_bent_holds : PySem.Challenge.rw_squarethreads_k46_whole_lines_bent.Holds := by
  w_on; o_law
  refine HandSHeadRun.head_any (r := OpenLaw.row PySem.Challenge.rw_squarethreads_k46_whole_lines_bent) (q := view (OpenLaw.row PySem.Challenge.rw_squarethreads_k46_whole_lines_bent).prog [50]) (H := Lz.hk) (ob := Lz.ob) (M := 4000) (loose := Lz.loose) (d := HandSHeadRun.topDef (OpenLaw.row PySem.Challenge.rw_squarethreads_k46_whole_lines_bent).prog 50) (kwd := []) Lz.ob_eq
    (by kernel_rfl) (fun s => by kernel_rfl) Lz.run (by kernel_rfl) (by kernel_rfl) (by kernel_rfl) (by rfl) (by first | assumption | decide +kernel) (by decide +kernel) ⟨rfl, rfl, rfl, rfl, rfl, by decide +kernel⟩ ?hw ?hc
  case hw => w_witness2
  case hc =>
    refine L2.walk_ofEB (l := PySem.Challenge.rw_squarethreads_k46_whole_lines_bent) (n := 63) (k := 10) (x := "script") (CX := Ev.CXE) rfl (by decide) (by kernel_rfl) ⟨rfl, by decide, by decide⟩ ?F Ev.law_CXE
    intro w mg fa h Y G hmg0
    obtain ⟨K, KX, c0⟩ := Y
    have c := c0.t.d
    have cx := c0.more
    have hmg : mg ("law" : PySem.Str) = some (.ref fa) := by
      have e : (HandSHeadRun.topDef (OpenLaw.row PySem.Challenge.rw_squarethreads_k46_whole_lines_bent).prog 50).name = ("law" : PySem.Str) := by kernel_rfl
      rw [← e]
      exact hmg0
    obtain ⟨fd, hb, hF⟩ := Lw.facts (P := (PySem.Challenge.rw_squarethreads_k46_whole_lines_bent).prog) (w := w) KX G hmg c cx
    exact ⟨K, fd, _, KX, hb, fun H a ns hl hbits _ hS => Ev.law_sp hS (Lw.pure_law ns hl hbits), hF⟩


